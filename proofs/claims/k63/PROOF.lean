import PyProof.Rows.All
import Wide.All
import OpenK.AllK
import Wide.FinOn
import Lean
import PyProof.EqAt
import PyProof.EqKinds
import PyProof.TupleCall
import PyProof.NeKinds
import PyProof.ExcInit
import PyProof.StationsW
import PyProof.ExcBaseAll.ValueError
import PyProof.ExcArgs
import KE.KIsAll
import PyProof.ReprRoads
import PyProof.CallFns
import PyProof.ExcClass3
import PyProof.StrBlock2
import PyProof.FitsInt
import PyProof.StrLawsRepr
import KE.KTryMore
import PyProof.RulesAs
import KE.KIntText
import PyProof.StrLawsChain
import PyProof.StrCalls2
import PyProof.ZipIter
import PyProof.Conv_bool
import PyProof.CallStr
import PyProof.TupleIter
import KE.KEqDict
import PyProof.AutoListH
import PyProof.FactsAll.range_2
import PySem.Challenge.RW_slideroom_k63_whole_broken_off_and_gone
-- CHANGE: your row's module here, as the last of these rows
set_option Elab.async false
set_option linter.all false
set_option maxRecDepth 100000
namespace L2
open PySem PySem.Spec PyProof.Rows
abbrev Key := Sum Int Str
def keyIs : Key → Value → Bool
  | .inl k, v => Value.isInt k v
  | .inr x, v => Value.isStrOf x v
def keyH (w : World) : Key → Int
  | .inl k => hashInt k
  | .inr x => hashStr w x
theorem keyIs_shape : ∀ {k : Key} {v : Value}, keyIs k v = true → (∃ i t, k = Sum.inl i ∧ v = Value.int i t) ∨ (∃ x t, k = Sum.inr x ∧ v = Value.str x t)
  | .inl i, v, h => by
    obtain ⟨t, e⟩ := Value.isInt_shape (k := i) (v := v) h
    exact .inl ⟨i, t, rfl, e⟩
  | .inr x, v, h => by
    obtain ⟨t, e⟩ := Value.isStrOf_shape (x := x) (v := v) h
    exact .inr ⟨x, t, rfl, e⟩
theorem keyIs_int (i : Int) (t : Tok) : keyIs (.inl i) (.int i t) = true := by simp [keyIs, Value.isInt]
theorem keyIs_str (x : Str) (t : Tok) : keyIs (.inr x) (.str x t) = true := by simp [keyIs, Value.isStrOf]
theorem key_ll (a b : Int) : decide ((Sum.inl a : Key) = Sum.inl b) = (a == b) := by
  by_cases e : a = b
  · subst e; simp
  · have h : ¬ (Sum.inl a : Key) = Sum.inl b := fun q => e (Sum.inl.inj q)
    rw [decide_eq_false h]
    exact (beq_eq_false_iff_ne.mpr e).symm
theorem key_rr (a b : Str) : decide ((Sum.inr a : Key) = Sum.inr b) = decide (a = b) := by
  by_cases e : a = b
  · subst e; simp
  · have h : ¬ (Sum.inr a : Key) = Sum.inr b := fun q => e (Sum.inr.inj q)
    rw [decide_eq_false h, decide_eq_false e]
theorem key_lr (a : Int) (b : Str) : decide ((Sum.inl a : Key) = Sum.inr b) = false := decide_eq_false (fun q => nomatch q)
theorem key_rl (a : Str) (b : Int) : decide ((Sum.inr a : Key) = Sum.inl b) = false := decide_eq_false (fun q => nomatch q)
def mixKind (prog : Program) (w : World) : PySem.KeyKind prog w Key where
  is := keyIs
  hash := keyH w
  inj := fun v a b ha hb => by
    rcases keyIs_shape ha with ⟨i, t, rfl, rfl⟩ | ⟨x, t, rfl, rfl⟩
    · rcases keyIs_shape hb with ⟨j, u, rfl, e⟩ | ⟨y, u, rfl, e⟩
      · injection e with e1 _; rw [e1]
      · exact nomatch e
    · rcases keyIs_shape hb with ⟨j, u, rfl, e⟩ | ⟨y, u, rfl, e⟩
      · exact nomatch e
      · injection e with e1 _; rw [e1]
  byValue := fun k v h => by
    rcases keyIs_shape h with ⟨i, t, rfl, rfl⟩ | ⟨x, t, rfl, rfl⟩ <;> rfl
  pyHash := fun hv h => by
    rcases keyIs_shape hv with ⟨i, t, rfl, rfl⟩ | ⟨x, t, rfl, rfl⟩
    · exact wpAny_pyHash_int h
    · exact wpAny_pyHash_str h
  eqBool := fun hu hv h => by
    rcases keyIs_shape hu with ⟨i, t, rfl, rfl⟩ | ⟨x, t, rfl, rfl⟩
    · rcases keyIs_shape hv with ⟨j, u, rfl, rfl⟩ | ⟨y, u, rfl, rfl⟩
      · rw [key_ll] at h; exact wpAny_eqBool_int h
      · rw [key_lr] at h; exact SeqAt.EqAt.int_str i t y u _ _ _ _ h
    · rcases keyIs_shape hv with ⟨j, u, rfl, rfl⟩ | ⟨y, u, rfl, rfl⟩
      · rw [key_rl] at h; exact SeqAt.EqAt.str_int x t j u _ _ _ _ h
      · rw [key_rr] at h; exact wpAny_eqBool_str h
  «strs» := fun k x t v h => by
    rcases keyIs_shape h with ⟨i, u, rfl, e⟩ | ⟨y, u, rfl, e⟩
    · exact nomatch e
    · injection e with e1 _
      subst e1
      cases v <;> rfl
theorem mixKind_int (prog : Program) (w : World) (i : Int) (t : Tok) : (mixKind prog w).is (.inl i) (.int i t) = true := keyIs_int i t
theorem mixKind_str (prog : Program) (w : World) (x : Str) (t : Tok) : (mixKind prog w).is (.inr x) (.str x t) = true := keyIs_str x t
inductive V where
  | non | bl (b : Bool) | int (i : Int) | str (x : Str) | byt (b : Array UInt8) | flt (b : UInt64) | ref (a : Addr) | ty (n : String)
  deriving DecidableEq
def RelV : V → Value → Prop
  | .non, u => u = Value.none
  | .bl b, u => u = Value.bool b
  | .int i, u => ∃ t, u = Value.int i t
  | .str x, u => ∃ t, u = Value.str x t
  | .byt b, u => ∃ t, u = Value.bytes b t
  | .flt b, u => ∃ t, u = Value.float b t
  | .ref a, u => u = Value.ref a
  | .ty n, u => u = Value.type n
abbrev Vals : List V → List Value → Prop := Paired RelV
theorem Vals.length {xs : List V} {us : List Value} (r : Vals xs us) : xs.length = us.length := Paired.length r
theorem Vals.get : ∀ {xs : List V} {us : List Value} {i : Nat} {x : V}, Vals xs us → xs[i]? = some x → ∃ u, us[i]? = some u ∧ RelV x u
  | _, _, _, _, .nil, e => by simp at e
  | _, _, 0, _, .cons r _, e => by simp at e; subst e; exact ⟨_, rfl, r⟩
  | _, _, i + 1, x, .cons _ t, e => by
    obtain ⟨u, h1, h2⟩ := Vals.get (i := i) (x := x) t (by simpa using e)
    exact ⟨u, by simpa using h1, h2⟩
theorem Vals.set {x : V} {u : Value} (r : RelV x u) : ∀ {xs : List V} {us : List Value} (i : Nat), Vals xs us → Vals (xs.set i x) (us.set i u)
  | _, _, _, .nil => .nil
  | _, _, 0, .cons _ t => .cons r t
  | _, _, i + 1, .cons q t => .cons q (Vals.set r i t)
theorem Vals.append : ∀ {xs ys : List V} {us ws : List Value}, Vals xs us → Vals ys ws → Vals (xs ++ ys) (us ++ ws)
  | _, _, _, _, .nil, s => s
  | _, _, _, _, .cons r t, s => .cons r (Vals.append t s)
theorem Vals.take : ∀ {xs : List V} {us : List Value} (n : Nat), Vals xs us → Vals (xs.take n) (us.take n)
  | _, _, 0, _ => .nil
  | _, _, _ + 1, .nil => .nil
  | _, _, n + 1, .cons r t => .cons r (Vals.take n t)
theorem Vals.drop : ∀ {xs : List V} {us : List Value} (n : Nat), Vals xs us → Vals (xs.drop n) (us.drop n)
  | _, _, 0, r => r
  | _, _, _ + 1, .nil => .nil
  | _, _, n + 1, .cons _ t => Vals.drop n t
def RelO : Option V → Option Value → Prop
  | some v, some u => RelV v u
  | none, none => True
  | _, _ => False
def KV {κ : Type} : List (κ × V) → List (κ × Value) → Prop := Paired fun (p : κ × V) (q : κ × Value) => p.1 = q.1 ∧ RelV p.2 q.2
def kV : Key → V
  | .inl i => .int i
  | .inr x => .str x
inductive HO where
  /-- a list -/
  | lst (xs : List V)
  /-- a tuple (never changes) -/
  | tup (xs : List V)
  /-- a dict whose keys are ints and texts; one whose keys are tuples of ints and texts (the empty one is both) -/
  | dK (kvs : List (Key × V)) | dT (kvs : List (List Key × V))
  /-- a set of ints: its members, its size -/
  | set (S : Int → Bool) (n : Nat)
  /-- an instance of the class at C, its dict at dx, its attributes -/
  | ins (C dx : Addr) (fs : List (Str × V))
  /-- the dict of the instance at x -/
  | own (x : Addr)
  /-- the dict of an exception -/
  | xd (fs : List (Str × V))
  /-- a bound method, f of x -/
  | met (f x : Addr)
  /-- a range object lo, lo + 1, .. below hi -/
  | rng (lo hi : Int)
  /-- a thing that is known to the object (the script; a dict while a loop walks it): read, never written while it is so -/
  | frz (o : Obj) (u : HO)
  /-- a code object's table -/
  | tbl (ps : Array Value)
  /-- any other thing, by what is true of its one object (a def of one's own: SetO a S n := HO.ext fun h => ..) -/
  | ext (φ : Heap → Prop)
abbrev Hp := Addr → Option HO
def upd (H : Hp) (a : Addr) (o : HO) : Hp := fun b => if b = a then some o else H b
theorem upd_same {H : Hp} {a : Addr} {o : HO} : upd H a o a = some o := by unfold upd; rw [if_pos rfl]
theorem upd_ne {H : Hp} {a b : Addr} {o : HO} (h : b ≠ a) : upd H a o b = H b := by unfold upd; rw [if_neg h]
theorem upd_upd {H : Hp} {a : Addr} {o u : HO} : upd (upd H a o) a u = upd H a u := by
  funext b; unfold upd; split <;> rfl
theorem ne_of {H : Hp} {a b : Addr} {o u : HO} (h : H a = some o) (h' : H b = some u) (d : o ≠ u) : a ≠ b := by
  intro e; subst e; rw [h] at h'; exact d (Option.some.inj h')
theorem ne_of_none {H : Hp} {a b : Addr} {o : HO} (h : H a = some o) (h' : H b = none) : a ≠ b := by
  intro e; subst e; rw [h] at h'; cases h'
section
variable (P : Program) (w : World)
def ObjOk (H : Hp) (h : Heap) (a : Addr) : HO → Prop
  | .lst xs => xs.length ≤ sizeLine ∧ ∃ (its : List Value) (n : Nat), Vals xs its ∧ h.get? a = some { cls := .type "list", data := .seq its.toArray n }
  | .tup xs => xs.length ≤ sizeLine ∧ ∃ its : List Value, Vals xs its ∧ IsTup h a its.toArray
  | .dK kvs => kvs.length ≤ sizeLine ∧ (a == sysModules) = false ∧ ∃ vs, KV kvs vs ∧ h.DictOf (mixKind P w) a vs
  | .dT kvs => kvs.length ≤ sizeLine ∧ (a == sysModules) = false ∧ ∃ xs : List (List Key × Addr × Value),
      Paired (fun (p : List Key × V) (q : List Key × Addr × Value) => p.1 = q.1 ∧ H q.2.1 = some (.tup (p.1.map kV)) ∧ RelV p.2 q.2.2) kvs xs ∧
      ∃ o es ep, h.get? a = some o ∧ o.ExactDict ∧ o.data = .dict es ep ∧ es.toList = xs.map (entryOfKey (tupleKind (mixKind P w))) ∧ (xs.map (·.1)).Nodup
  | .set S n => h.SetOf (intKind P w) a S n
  | .ins C dx fs => H dx = some (.own a) ∧ fs.length ≤ 1000 ∧ dx ≠ a ∧ h.get? a = some (PySem.W.instObj C dx) ∧
      ∃ mA, h.Ns1 dx mA ∧ (∀ f, RelO (fs.lookup f) (mA f)) ∧ PySem.Within mA (fs.map (·.1))
  | .own _ => ∃ o, h.get? a = some o
  | .xd fs => ∃ mA, h.Ns1 a mA ∧ ∀ f, RelO (fs.lookup f) (mA f)
  | .rng lo hi => ∃ t u v, h.get? a = some { cls := .type "range", data := .fields #[.int lo t, .int hi u, .int 1 v] }
  | .frz o u => h.get? a = some o ∧ ObjOk H h a u
  | .tbl ps => h.get? a = some { cls := .none, data := .fields ps }
  | .met f x => h.get? a = some (PySem.W.methodObj (.ref f) (.ref x))
  | .ext φ => φ h ∧ (∃ o, h.get? a = some o) ∧ ∀ h1 h2 : Heap, φ h1 → (∀ o, h1.get? a = some o → h2.get? a = some o) → φ h2
def HOk (H : Hp) (h : Heap) : Prop := ∀ a o, H a = some o → ObjOk P w H h a o
end
section
variable {P : Program} {w : World} {H H' : Hp} {h h' : Heap} {a : Addr} {o : HO}
theorem ObjOk.lt (x : ObjOk P w H h a o) : a < h.objs.size := by
  cases o with
  | lst xs => obtain ⟨_, _, _, _, e⟩ := x; exact Heap.lt_size e
  | tup xs => obtain ⟨_, _, _, p⟩ := x; exact p.lt
  | dK kvs => obtain ⟨_, _, _, _, o, _, _, e, _⟩ := x; exact Heap.lt_size e
  | dT kvs => obtain ⟨_, _, _, _, o, _, _, e, _⟩ := x; exact Heap.lt_size e
  | set S n => obtain ⟨o, _, _, _, e, _⟩ := x; exact Heap.lt_size e
  | ins C dx fs => obtain ⟨_, _, _, e, _⟩ := x; exact Heap.lt_size e
  | own y => obtain ⟨_, e⟩ := x; exact Heap.lt_size e
  | xd fs => obtain ⟨_, ⟨_, _, _, e, _⟩, _⟩ := x; exact Heap.lt_size e
  | rng lo hi => obtain ⟨_, _, _, e⟩ := x; exact Heap.lt_size e
  | frz ob u => obtain ⟨e, _⟩ := x; exact Heap.lt_size e
  | tbl ps => exact Heap.lt_size (show h.get? a = some _ from x)
  | met f y => exact Heap.lt_size (show h.get? a = some _ from x)
  | ext φ => obtain ⟨_, ⟨_, e⟩, _⟩ := x; exact Heap.lt_size e
theorem Paired.mapP {α β : Type} {F G : α → β → Prop} : ∀ {l₁ : List α} {l₂ : List β}, Paired F l₁ l₂ → (∀ a b, F a b → G a b) → Paired G l₁ l₂
  | _, _, .nil, _ => .nil
  | _, _, .cons r t, f => .cons (f _ _ r) (Paired.mapP t f)
theorem ObjOk.stay (x : ObjOk P w H h a o) (k : ∀ b u, (b = a ∨ H b = some (.own a)) → h.get? b = some u → h'.get? b = some u)
    (ho : ∀ b, H b = some (.own a) → H' b = some (.own a)) (ht : ∀ b xs, H b = some (.tup xs) → H' b = some (.tup xs)) : ObjOk P w H' h' a o := by
  induction o with
  | lst xs => obtain ⟨z, its, n, r, e⟩ := x; exact ⟨z, its, n, r, k _ _ (.inl rfl) e⟩
  | tup xs => obtain ⟨z, its, r, ob, e, c⟩ := x; exact ⟨z, its, r, ob, k _ _ (.inl rfl) e, c⟩
  | dK kvs => obtain ⟨z, y, vs, r, ob, es, ep, e, c⟩ := x; exact ⟨z, y, vs, r, ob, es, ep, k _ _ (.inl rfl) e, c⟩
  | dT kvs =>
    obtain ⟨z, y, xs, r, ob, es, ep, e, c⟩ := x
    exact ⟨z, y, xs, Paired.mapP r fun p q z => ⟨z.1, ht _ _ z.2.1, z.2.2⟩, ob, es, ep, k _ _ (.inl rfl) e, c⟩
  | set S n => obtain ⟨ob, es, ep, t, e, c⟩ := x; exact ⟨ob, es, ep, t, k _ _ (.inl rfl) e, c⟩
  | ins C dx fs =>
    obtain ⟨d, z, ne, e, mA, ⟨od, es, ep, e2, c⟩, r⟩ := x
    exact ⟨ho _ d, z, ne, k _ _ (.inl rfl) e, mA, ⟨od, es, ep, k _ _ (.inr d) e2, c⟩, r⟩
  | own y => obtain ⟨ob, e⟩ := x; exact ⟨ob, k _ _ (.inl rfl) e⟩
  | xd fs => obtain ⟨mA, ⟨od, es, ep, e, c⟩, r⟩ := x; exact ⟨mA, ⟨od, es, ep, k _ _ (.inl rfl) e, c⟩, r⟩
  | rng lo hi => obtain ⟨t, u, v, e⟩ := x; exact ⟨t, u, v, k _ _ (.inl rfl) e⟩
  | frz ob u ih => obtain ⟨e, q⟩ := x; exact ⟨k _ _ (.inl rfl) e, ih q⟩
  | tbl ps =>
    have e : h.get? a = some { cls := .none, data := .fields ps } := x
    show h'.get? a = some { cls := .none, data := .fields ps }
    exact k a _ (.inl rfl) e
  | met f y =>
    have e : h.get? a = some (PySem.W.methodObj (.ref f) (.ref y)) := x
    show h'.get? a = some (PySem.W.methodObj (.ref f) (.ref y))
    exact k a _ (.inl rfl) e
  | ext φ => obtain ⟨p, ⟨o, e⟩, st⟩ := x; exact ⟨st _ _ p fun o q => k _ _ (.inl rfl) q, ⟨o, k _ _ (.inl rfl) e⟩, st⟩
theorem HOk.lt (x : HOk P w H h) (e : H a = some o) : a < h.objs.size := (x a o e).lt
theorem HOk.fresh (x : HOk P w H h) (e : h.objs.size ≤ a) : H a = none := by
  cases q : H a with
  | none => rfl
  | some u => exact absurd (Nat.lt_of_lt_of_le (x.lt q) e) (Nat.lt_irrefl _)
theorem HOk.kept (x : HOk P w H h) (k : ∀ b u, h.get? b = some u → h'.get? b = some u) : HOk P w H h' := fun a o e =>
  (x a o e).stay (fun b u _ q => k b u q) (fun _ q => q) fun _ _ q => q
theorem HOk.laid (x : HOk P w H h) (k : ∀ b u, h.get? b = some u → h'.get? b = some u) (hp : h.objs.size ≤ a) (new : ObjOk P w (upd H a o) h' a o) : HOk P w (upd H a o) h' := fun b u e => by
  have hn := x.fresh hp
  by_cases hb : b = a
  · subst hb; rw [upd_same] at e; cases e; exact new
  · rw [upd_ne hb] at e
    exact (x b u e).stay (fun c v _ q => k c v q) (fun c q => by rw [upd_ne (ne_of_none q hn)]; exact q) fun c xs q => by rw [upd_ne (ne_of_none q hn)]; exact q
end
def Rd (H : Hp) (a : Addr) (u : HO) : Prop := H a = some u ∨ ∃ o, H a = some (.frz o u)
theorem Rd.of {H : Hp} {a : Addr} {u : HO} (h : H a = some u) : Rd H a u := .inl h
theorem Rd.ok {P : Program} {w : World} {H : Hp} {h : Heap} {a : Addr} {u : HO} (r : Rd H a u) (x : HOk P w H h) : ObjOk P w H h a u := by
  rcases r with r | ⟨o, r⟩
  · exact x a u r
  · obtain ⟨_, q⟩ := x a _ r
    exact q
def Mut : Option HO → Prop
  | some (.lst _) => True
  | some (.dK _) => True
  | some (.dT _) => True
  | some (.set _ _) => True
  | some (.ins _ _ _) => True
  | some (.ext _) => True
  | _ => False
section
variable {P : Program} {w : World} {H : Hp} {h h' : Heap} {x e : Addr} {o' : HO}
theorem HOk.write (ok : HOk P w H h) (mu : Mut (H x)) (he : e = x ∨ H e = some (.own x)) (k : ∀ b u, b ≠ e → h.get? b = some u → h'.get? b = some u) (heo : ∃ u, h'.get? e = some u)
    (new : ObjOk P w (upd H x o') h' x o') : HOk P w (upd H x o') h' := fun b u q => by
  have nown : ∀ c y, H c = some (.own y) → c ≠ x := fun c y r z => by subst z; rw [r] at mu; exact mu
  have ntup : ∀ c xs, H c = some (.tup xs) → c ≠ x := fun c xs r z => by subst z; rw [r] at mu; exact mu
  by_cases hb : b = x
  · subst hb; rw [upd_same] at q; cases q; exact new
  · rw [upd_ne hb] at q
    by_cases hbe : b = e
    · have q' : H b = some (.own x) := by
        rcases he with z | z
        · exact absurd (hbe.trans z) hb
        · rw [hbe]; exact z
      rw [q] at q'; cases q'
      obtain ⟨v, hv⟩ := heo
      exact ⟨v, by rw [hbe]; exact hv⟩
    · refine (ok b u q).stay (fun c v hc r => k c v ?_ r) (fun c r => by rw [upd_ne (nown c b r)]; exact r) fun c xs r => by rw [upd_ne (ntup c xs r)]; exact r
      rcases hc with rfl | hc
      · exact hbe
      · rintro rfl
        rcases he with z | z
        · exact nown c b hc z
        · rw [hc] at z; cases z; exact hb rfl
end
structure Un (fs ex : List Addr) (H H' : Hp) (h h' : Heap) : Prop where
  keep : ∀ b o, h.get? b = some o → H b = none → b ∉ fs → b ∉ ex → h'.get? b = some o
  slot : ∀ b o, h.get? b = some o → H b = none → b ∈ fs → b ∉ ex → ∃ sl, h'.get? b = some { o with slots := sl }
  free : ∀ b o, h.get? b = some o → H b = none → b ∉ ex → H' b = none
  there : ∀ b o, h.get? b = some o → b ∉ ex → ∃ o', h'.get? b = some o'
  tups : ∀ b xs, H b = some (.tup xs) → H' b = some (.tup xs)
  frzs : ∀ b o u, H b = some (.frz o u) → H' b = some (.frz o u)
  tbls : ∀ b ps, H b = some (.tbl ps) → ∃ more, H' b = some (.tbl (ps ++ more))
section
variable {fs fs' ex ex' : List Addr} {H H1 H2 : Hp} {h h1 h2 h' : Heap} {a x e : Addr} {o : HO}
theorem Un.any (u : Un fs ex H H1 h h1) {b : Addr} {ob : Obj} (q : h.get? b = some ob) (n : H b = none) (hx : b ∉ ex) : ∃ sl, h1.get? b = some { ob with slots := sl } := by
  by_cases hb : b ∈ fs
  · exact u.slot b ob q n hb hx
  · exact ⟨ob.slots, u.keep b ob q n hb hx⟩
theorem Un.trans (a : Un fs ex H H1 h h1) (b : Un fs ex H1 H2 h1 h2) : Un fs ex H H2 h h2 where
  keep := fun c ob q n hc hx => b.keep c ob (a.keep c ob q n hc hx) (a.free c ob q n hx) hc hx
  slot := fun c ob q n hc hx => by
    obtain ⟨sl, e1⟩ := a.slot c ob q n hc hx
    obtain ⟨sl', e2⟩ := b.slot c _ e1 (a.free c ob q n hx) hc hx
    exact ⟨sl', e2⟩
  free := fun c ob q n hx => by
    obtain ⟨o', e1⟩ := a.there c ob q hx
    exact b.free c o' e1 (a.free c ob q n hx) hx
  there := fun c ob q hx => by
    obtain ⟨o', e1⟩ := a.there c ob q hx
    exact b.there c o' e1 hx
  tups := fun c xs q => b.tups c xs (a.tups c xs q)
  frzs := fun c ob xs q => b.frzs c ob xs (a.frzs c ob xs q)
  tbls := fun c ps q => by
    obtain ⟨m1, e1⟩ := a.tbls c ps q
    obtain ⟨m2, e2⟩ := b.tbls c _ e1
    exact ⟨m1 ++ m2, by rw [e2, Array.append_assoc]⟩
theorem Un.kept (k : ∀ b u, h.get? b = some u → h'.get? b = some u) : Un fs ex H H h h' :=
  ⟨fun b ob q _ _ _ => k b ob q, fun b ob q _ _ _ => ⟨ob.slots, k b ob q⟩, fun _ _ _ n _ => n, fun b ob q _ => ⟨ob, k b ob q⟩, fun _ _ q => q, fun _ _ _ q => q, fun _ ps q => ⟨#[], by rw [q]; simp⟩⟩
theorem Un.refl : Un fs ex H H h h := Un.kept fun _ _ q => q
theorem Un.laid (k : ∀ b u, h.get? b = some u → h'.get? b = some u) (hp : h.objs.size ≤ a) (hn : H a = none) : Un fs ex H (upd H a o) h h' where
  keep := fun b u q _ _ _ => k b u q
  slot := fun b u q _ _ _ => ⟨u.slots, k b u q⟩
  free := fun b u q n _ => by rw [upd_ne (Nat.ne_of_lt (Nat.lt_of_lt_of_le (Heap.lt_size q) hp))]; exact n
  there := fun b u q _ => ⟨u, k b u q⟩
  tups := fun b xs q => by rw [upd_ne (ne_of_none q hn)]; exact q
  frzs := fun b u xs q => by rw [upd_ne (ne_of_none q hn)]; exact q
  tbls := fun b ps q => ⟨#[], by rw [upd_ne (ne_of_none q hn), q]; simp⟩
theorem Un.write (mu : Mut (H x)) (he : e = x ∨ H e = some (.own x)) (k : ∀ b u, b ≠ e → h.get? b = some u → h'.get? b = some u) (heo : ∃ u, h'.get? e = some u) : Un fs ex H (upd H x o) h h' := by
  have hx : ∀ b, H b = none → b ≠ x := fun b n z => by subst z; rw [n] at mu; exact mu
  have hb : ∀ b, H b = none → b ≠ e := fun b n z => by
    subst z
    rcases he with r | r
    · exact hx b n r
    · rw [n] at r; cases r
  have hm : ∀ b u, H b = some u → ¬ Mut (some u) → b ≠ x := fun b u q nm z => by subst z; rw [q] at mu; exact nm mu
  refine ⟨fun b u q n _ _ => k b u (hb b n) q, fun b u q n _ _ => ⟨u.slots, k b u (hb b n) q⟩, fun b u q n _ => by rw [upd_ne (hx b n)]; exact n, fun b u q _ => ?_,
    fun b xs q => by rw [upd_ne (hm b _ q fun z => z)]; exact q, fun b u xs q => by rw [upd_ne (hm b _ q fun z => z)]; exact q, fun b ps q => ⟨#[], by rw [upd_ne (hm b _ q fun z => z), q]; simp⟩⟩
  by_cases hbe : b = e
  · subst hbe; exact heo
  · exact ⟨u, k b u hbe q⟩
end
def trk (h : Heap) (H : Hp) : List Addr := (List.range h.objs.size).filter fun a => (H a).isSome
def hidT (h : Heap) (H : Hp) : Heap := PySem.W.hideAll h (trk h H)
theorem hidT_size (h : Heap) (H : Hp) : (hidT h H).objs.size = h.objs.size := PySem.W.hideAll_size _ _
theorem hidT_get {h : Heap} {H : Hp} {b : Addr} {o : Obj} (e : h.get? b = some o) (n : H b = none) : (hidT h H).get? b = some o :=
  PySem.W.hideAll_get _ e fun hm => by
    have q : (H b).isSome = true := (List.mem_filter.mp hm).2
    rw [n] at q; simp at q
theorem of_hidT {h : Heap} {H : Hp} {b : Addr} {o : Obj} (e : (hidT h H).get? b = some o) : h.get? b = some o ∧ H b = none := by
  have e' : h.get? b = some o := PySem.W.of_hideAll (trk h H) e
  refine ⟨e', ?_⟩
  cases q : H b with
  | none => rfl
  | some x =>
    have hm : b ∈ trk h H := List.mem_filter.mpr ⟨List.mem_range.mpr (Heap.lt_size e'), by simp [q]⟩
    have z : (hidT h H).get? b = none := PySem.W.hideAll_none (trk h H) hm
    rw [z] at e; cases e
structure Mod (K : PySem.W.Frag) (mg : Str → Option Value) (base : Heap) : Prop where
  kin : K.In base
  glob : base.Ns mainGlobals mg
  blt : ∃ mb, base.Ns builtinsNs mb ∧ ∀ x : Str, x ≠ "__name__" → mb x = bootBuiltins x
  nolimit : base.NoLimit
/-- the context: a def's body (or a comprehension's block) running. base: fixed through the whole law; s₀, H₀: the entry; outer: the frames whose slots others may change (a def's callers); stack: all frames that run;
   ex: iterators that were made ahead of the entry and are walked here (a comprehension's); fn: the names whose cells were made at the entry (a def: all; a comprehension's block: its own); calm: not within an except suite; pn: pins that every state bears; xe: what is wanted of an exception that leaves the code -/
structure Cx where
  prog : Program
  w : World
  K : PySem.W.Frag
  mg : Str → Option Value
  base : Heap
  A : Around
  N : List Str
  s₀ : Shared
  H₀ : Hp
  env : Env
  outer : List Env
  stack : List Env
  ex : List Addr
  fn : Str → Bool
  calm : Bool
  pn : List (Addr × Obj)
  xe : Value → Shared → Prop
def frs (l : List Env) : List Addr := l.filterMap (·.frame)
abbrev Cx.fs (X : Cx) : List Addr := frs X.outer
def Vis (sc : Scope) (x : Str) : Prop := sc.names.lookup x = some .local ∨ sc.names.lookup x = some .cell ∨ sc.names.lookup x = some .free
def Loc (sc : Scope) (x : Str) : Prop := sc.names.lookup x = some .local ∨ sc.names.lookup x = some .cell
def Look (env : Env) (h : Heap) (m : Str → Option Value) (x : Str) (u : Value) : Prop :=
  (env.kindOf x = some .local ∧ m x = some u) ∨ ((env.kindOf x = some .cell ∨ env.kindOf x = some .free) ∧ ∃ c, env.cells.lookup x = some c ∧ h.IsCell c (some u))
structure Cx.Ok (X : Cx) : Prop where
  mod : Mod X.K X.mg X.base
  kind : X.env.scope.kind = .function
  glob : X.env.globals = mainGlobals
  blt : X.env.builtins = builtinsNs
  above : X.s₀.heap.objs.size ≤ X.env.locals
  inj : ∀ x y c, X.env.cells.lookup x = some c → X.env.cells.lookup y = some c → x = y
  has : ∀ x, (X.env.kindOf x = some .cell ∨ X.env.kindOf x = some .free) → ∃ c, X.env.cells.lookup x = some c
  cab : ∀ x c, X.fn x = true → X.env.cells.lookup x = some c → X.s₀.heap.objs.size ≤ c
  hd : X.calm = true → X.A.handled = none
  frames : X.A.frames = some X.stack
  stk : X.stack = X.outer ∨ (X.stack = X.env :: X.outer ∧ X.env.frame = some X.env.locals)
  exf : ∀ b ∈ X.ex, b ≠ X.env.locals ∧ ∀ x c, X.env.cells.lookup x = some c → c ≠ b
  bs : ∀ b o, X.base.get? b = some o → X.s₀.heap.get? b = some o ∧ X.H₀ b = none
  bsz : X.base.objs.size ≤ X.s₀.heap.objs.size
  noex : ∀ b o, X.base.get? b = some o → b ∉ X.ex
  exfs : ∀ b ∈ X.ex, b ∉ X.fs
  funs : X.s₀.heap.FunFrames X.base X.outer
  frf : ∀ b ∈ X.fs, X.H₀ b = none
structure Inv (X : Cx) (pins : List (Addr × Obj)) (σ : List (Option V)) (H : Hp) (s : Shared) : Prop where
  ok : X.Ok
  os : s.os = X.s₀.os
  bare : AllBare s.gens
  base : Un X.fs X.ex X.H₀ H X.s₀.heap s.heap
  loc : ∃ m, s.heap.Ns X.env.locals m ∧ ∀ (i : Nat) (x : Str) (v : V), X.N[i]? = some x → σ[i]? = some (some v) → Vis X.env.scope x → ∃ u, RelV v u ∧ Look X.env s.heap m x u
  cell : ∀ x c, X.env.cells.lookup x = some c → ∃ v, s.heap.IsCell c v
  free : H X.env.locals = none
  freeC : ∀ x c, X.env.cells.lookup x = some c → H c = none
  pin : ∀ p ∈ X.pn ++ pins, s.heap.get? p.1 = some p.2 ∧ H p.1 = none ∧ p.1 ≠ X.env.locals ∧ p.1 ∉ X.fs ∧ ∀ v, p.2.data ≠ .cell v
  hok : HOk X.prog X.w H s.heap
  len : σ.length = X.N.length
section
variable {X : Cx} {pins : List (Addr × Obj)} {σ : List (Option V)} {H H' : Hp} {s : Shared} {h' : Heap}
theorem Cx.Ok.nofr (ok : X.Ok) {b : Addr} {o : Obj} (e : X.base.get? b = some o) : b ∉ X.fs := fun hb => by
  have := (ok.funs.mem hb).1
  rw [e] at this; cases this
theorem Inv.bs (I : Inv X pins σ H s) : ∀ b o, X.base.get? b = some o → s.heap.get? b = some o ∧ H b = none := fun b o e =>
  ⟨I.base.keep b o (I.ok.bs b o e).1 (I.ok.bs b o e).2 (I.ok.nofr e) (I.ok.noex b o e), I.base.free b o (I.ok.bs b o e).1 (I.ok.bs b o e).2 (I.ok.noex b o e)⟩
theorem Inv.bk (I : Inv X pins σ H s) : ∀ b o, X.base.get? b = some o → s.heap.get? b = some o := fun b o e => (I.bs b o e).1
theorem Inv.mod (I : Inv X pins σ H s) : Mod X.K X.mg X.base := I.ok.mod
theorem Inv.kIn (I : Inv X pins σ H s) : X.K.In s.heap := I.ok.mod.kin.keeps I.bk
theorem Inv.fr (I : Inv X pins σ H s) : ∃ m, Fr X.base X.env.locals s.heap m :=
  let ⟨m, hn, _⟩ := I.loc
  ⟨m, hn, I.bk, Nat.le_trans I.ok.bsz I.ok.above⟩
theorem Inv.lt (I : Inv X pins σ H s) : X.env.locals < s.heap.objs.size := let ⟨_, hn, _⟩ := I.loc; hn.lt
theorem Inv.sz (I : Inv X pins σ H s) : X.s₀.heap.objs.size ≤ s.heap.objs.size := Nat.le_trans I.ok.above (Nat.le_of_lt I.lt)
theorem Inv.nofs (I : Inv X pins σ H s) {a : Addr} (h : s.heap.objs.size ≤ a) : a ∉ X.fs := fun hb => by
  obtain ⟨_, o, ho, _⟩ := I.ok.funs.mem hb
  exact absurd (Nat.lt_of_lt_of_le (Heap.lt_size ho) (Nat.le_trans I.sz h)) (Nat.lt_irrefl _)
theorem Inv.cne (I : Inv X pins σ H s) : ∀ x c, X.env.cells.lookup x = some c → c ≠ X.env.locals := fun x c e z => by
  obtain ⟨v, o, ho, hd⟩ := I.cell x c e
  obtain ⟨m, ⟨o', es, ep, ho', hd', _⟩, _⟩ := I.loc
  rw [z, ho'] at ho; cases ho; rw [hd'] at hd; cases hd
theorem Inv.funs (I : Inv X pins σ H s) : s.heap.FunFrames X.base X.outer := by
  have all : ∀ (l : List Env), (∀ b ∈ frs l, b ∈ X.fs) → X.s₀.heap.FunFrames X.base l → s.heap.FunFrames X.base l := by
    intro l
    induction l with
    | nil => intro _ _; trivial
    | cons env r ih =>
      intro hs hl
      obtain ⟨hk, ⟨L, o, hf, hn, ho, hd⟩, hr⟩ := hl
      have hL : L ∈ X.fs := hs L (by unfold frs; rw [List.filterMap_cons, hf]; exact List.mem_cons_self)
      obtain ⟨sl, e⟩ := I.base.slot L o ho (I.ok.frf L hL) hL fun z => I.ok.exfs L z hL
      exact ⟨hk, ⟨L, _, hf, hn, e, hd⟩, ih (fun b hb => hs b (by unfold frs; rw [List.filterMap_cons, hf]; exact List.mem_cons_of_mem _ hb)) hr⟩
  exact all X.outer (fun _ hb => hb) I.ok.funs
theorem Inv.stack (I : Inv X pins σ H s) : s.heap.FunFrames X.base X.stack := by
  rcases I.ok.stk with e | ⟨e, hf⟩
  · rw [e]; exact I.funs
  · rw [e]
    obtain ⟨m, hn, _⟩ := I.loc
    refine .cons (by rw [I.ok.kind]; decide) hf hn ?_ I.funs
    exact Heap.get?_none_of_le (Nat.le_trans I.ok.bsz I.ok.above)
theorem Inv.stkSub (I : Inv X pins σ H s) : ∀ b ∈ frs X.stack, b ∈ X.env.locals :: X.fs := fun b hb => by
  rcases I.ok.stk with e | ⟨e, hf⟩
  · rw [e] at hb; exact List.mem_cons_of_mem _ hb
  · rw [e] at hb
    unfold frs at hb
    rw [List.filterMap_cons, hf] at hb
    exact hb
theorem Inv.stkFree (I : Inv X pins σ H s) : ∀ b ∈ frs X.stack, H b = none := fun b hb => by
  rcases List.mem_cons.mp (I.stkSub b hb) with e | hb
  · rw [e]; exact I.free
  · obtain ⟨_, o, ho, _⟩ := I.ok.funs.mem hb
    exact I.base.free b o ho (I.ok.frf b hb) fun z => I.ok.exfs b z hb
theorem Inv.step {g' : Array GenState} {t' : Nat} {d' : Drawn} {ch : List Addr} (I : Inv X pins σ H s)
    (hch : ∀ b ∈ ch, (b ∈ X.ex ∨ X.s₀.heap.objs.size ≤ b) ∧ b ≠ X.env.locals ∧ (∀ x c, X.env.cells.lookup x = some c → c ≠ b) ∧ ∀ p ∈ X.pn ++ pins, p.1 ≠ b)
    (keep : ∀ b o, b ≠ X.env.locals → b ∉ X.fs → b ∉ ch → s.heap.get? b = some o → H b = none → h'.get? b = some o)
    (slot : ∀ b o, b ≠ X.env.locals → b ∈ X.fs → b ∉ ch → s.heap.get? b = some o → H b = none → ∃ sl, h'.get? b = some { o with slots := sl }) (free : ∀ b o, b ∉ ch → s.heap.get? b = some o → H b = none → H' b = none)
    (there : ∀ b o, b ∉ ch → s.heap.get? b = some o → ∃ o', h'.get? b = some o')
    (tups : ∀ b xs, H b = some (.tup xs) → H' b = some (.tup xs)) (frzs : ∀ b o u, H b = some (.frz o u) → H' b = some (.frz o u)) (tbls : ∀ b ps, H b = some (.tbl ps) → ∃ more, H' b = some (.tbl (ps ++ more)))
    (ns : ∀ m, s.heap.Ns X.env.locals m → h'.Ns X.env.locals m) (hok : HOk X.prog X.w H' h') (hg : AllBare g') :
    Inv X pins σ H' { s with heap := h', gens := g', drawn := d', toks := t' } := by
  have neL : ∀ b o, X.s₀.heap.get? b = some o → b ≠ X.env.locals := fun b o e => Nat.ne_of_lt (Nat.lt_of_lt_of_le (Heap.lt_size e) I.ok.above)
  have neC : ∀ b o, X.s₀.heap.get? b = some o → b ∉ X.ex → b ∉ ch := fun b o e hx hb => by
    rcases (hch b hb).1 with z | z
    · exact hx z
    · exact absurd (Nat.lt_of_lt_of_le (Heap.lt_size e) z) (Nat.lt_irrefl _)
  have cellK : ∀ x c, X.env.cells.lookup x = some c → ∀ v, s.heap.IsCell c v → h'.IsCell c v := fun x c e v ⟨o, ho, hd⟩ => by
    have nch : c ∉ ch := fun z => (hch c z).2.2.1 x c e rfl
    by_cases hc : c ∈ X.fs
    · obtain ⟨sl, q⟩ := slot c o (I.cne x c e) hc nch ho (I.freeC x c e)
      exact ⟨_, q, hd⟩
    · exact ⟨o, keep c o (I.cne x c e) hc nch ho (I.freeC x c e), hd⟩
  refine ⟨I.ok, I.os, hg, ⟨fun b o e n hb hx => ?_, fun b o e n hb hx => ?_, fun b o e n hx => ?_, fun b o e hx => ?_, fun b xs e => tups b xs (I.base.tups b xs e), fun b o xs e => frzs b o xs (I.base.frzs b o xs e), fun b ps e => ?_⟩, ?_, fun x c e => ?_, ?_, fun x c e => ?_, fun p hp => ?_, hok, I.len⟩
  · exact keep b o (neL b o e) hb (neC b o e hx) (I.base.keep b o e n hb hx) (I.base.free b o e n hx)
  · obtain ⟨sl, e1⟩ := I.base.slot b o e n hb hx
    obtain ⟨sl', e2⟩ := slot b _ (neL b o e) hb (neC b o e hx) e1 (I.base.free b o e n hx)
    exact ⟨sl', e2⟩
  · obtain ⟨o', e1⟩ := I.base.there b o e hx
    exact free b o' (neC b o e hx) e1 (I.base.free b o e n hx)
  · obtain ⟨o', e1⟩ := I.base.there b o e hx
    exact there b o' (neC b o e hx) e1
  · obtain ⟨m1, e1⟩ := I.base.tbls b ps e
    obtain ⟨m2, e2⟩ := tbls b _ e1
    exact ⟨m1 ++ m2, by rw [e2, Array.append_assoc]⟩
  · obtain ⟨m, hn, hl⟩ := I.loc
    refine ⟨m, ns m hn, fun i x v e1 e2 e3 => ?_⟩
    obtain ⟨u, r, l⟩ := hl i x v e1 e2 e3
    refine ⟨u, r, ?_⟩
    rcases l with l | ⟨k, c, e, z⟩
    · exact .inl l
    · exact .inr ⟨k, c, e, cellK x c e _ z⟩
  · obtain ⟨v, z⟩ := I.cell x c e
    exact ⟨v, cellK x c e v z⟩
  · obtain ⟨m, ⟨o, _, _, ho, _⟩, _⟩ := I.loc
    exact free _ o (fun z => (hch _ z).2.1 rfl) ho I.free
  · obtain ⟨v, o, ho, hd⟩ := I.cell x c e
    exact free c o (fun z => (hch c z).2.2.1 x c e rfl) ho (I.freeC x c e)
  · obtain ⟨e, n, ne, nf, d⟩ := I.pin p hp
    have nch : p.1 ∉ ch := fun z => (hch p.1 z).2.2.2 p hp rfl
    exact ⟨keep p.1 p.2 ne nf nch e n, free p.1 p.2 nch e n, ne, nf, d⟩
theorem Inv.un {t' : Nat} (I : Inv X pins σ H s) (u : Un X.fs [] H H' s.heap h') (hok : HOk X.prog X.w H' h') : Inv X pins σ H' { s with heap := h', toks := t' } := by
  obtain ⟨m, ⟨o, es, ep, ho, r⟩, _⟩ := id I.loc
  obtain ⟨sl, hL⟩ := u.any ho I.free (by simp)
  exact I.step (g' := s.gens) (d' := s.drawn) (ch := []) (fun _ z => nomatch z) (fun b o _ hb _ e n => u.keep b o e n hb (by simp)) (fun b o _ hb _ e n => u.slot b o e n hb (by simp)) (fun b o _ e n => u.free b o e n (by simp)) (fun b o _ e => u.there b o e (by simp)) u.tups u.frzs u.tbls (fun m' hm => by
    obtain ⟨o', es', ep', ho', r'⟩ := hm
    rw [ho] at ho'; cases ho'
    exact ⟨_, es', ep', hL, r'⟩) hok I.bare
theorem Inv.call {g' : Array GenState} {t' : Nat} {d' : Drawn} {ch : List Addr} (I : Inv X pins σ H s) (u : Un (frs X.stack) ch H H' s.heap h') (hok : HOk X.prog X.w H' h') (hg : AllBare g')
    (hch : ∀ b ∈ ch, (b ∈ X.ex ∨ X.s₀.heap.objs.size ≤ b) ∧ b ≠ X.env.locals ∧ (∀ x c, X.env.cells.lookup x = some c → c ≠ b) ∧ ∀ p ∈ X.pn ++ pins, p.1 ≠ b) :
    Inv X pins σ H' { s with heap := h', gens := g', drawn := d', toks := t' } := by
  obtain ⟨m, ⟨o, es, ep, ho, r⟩, _⟩ := id I.loc
  obtain ⟨sl, hL⟩ := u.any ho I.free fun z => (hch _ z).2.1 rfl
  exact I.step (ch := ch) hch (fun b o hL hb hc e n => u.keep b o e n (fun z => (List.mem_cons.mp (I.stkSub b z)).elim hL hb) hc) (fun b o _ _ hc e n => u.any e n hc) (fun b o hc e n => u.free b o e n hc) (fun b o hc e => u.there b o e hc) u.tups u.frzs u.tbls (fun m' hm => by
    obtain ⟨o', es', ep', ho', r'⟩ := hm
    rw [ho] at ho'; cases ho'
    exact ⟨_, es', ep', hL, r'⟩) hok hg
theorem Inv.turned {t' : Nat} {it : Addr} (I : Inv X pins σ H s) (k : ∀ b o, b ≠ it → s.heap.get? b = some o → h'.get? b = some o) (hn : H it = none) (hL : it ≠ X.env.locals)
    (h1 : it ∈ X.ex ∨ X.s₀.heap.objs.size ≤ it) (h2 : ∀ x c, X.env.cells.lookup x = some c → c ≠ it) (h3 : ∀ p ∈ X.pn ++ pins, p.1 ≠ it) : Inv X pins σ H { s with heap := h', toks := t' } := by
  have nit : ∀ b u, H b = some u → b ≠ it := fun b u e z => by rw [z, hn] at e; cases e
  refine I.step (g' := s.gens) (d' := s.drawn) (ch := [it]) (fun b hb => ?_) (fun b o _ _ hc e _ => k b o (fun z => hc (by simp [z])) e) (fun b o _ _ hc e _ => ⟨o.slots, k b o (fun z => hc (by simp [z])) e⟩) (fun _ _ _ _ n => n)
    (fun b o hc e => ⟨o, k b o (fun z => hc (by simp [z])) e⟩) (fun _ _ e => e) (fun _ _ _ e => e) (fun b ps e => ⟨#[], by rw [e]; simp⟩) (fun m hm => ?_) (fun b u e => ?_) I.bare
  · have e : b = it := by simpa using hb
    subst e
    exact ⟨h1, hL, h2, h3⟩
  · obtain ⟨o, es, ep, ho, r⟩ := hm
    exact ⟨o, es, ep, k _ o (Ne.symm hL) ho, r⟩
  · refine (I.hok b u e).stay (fun c v hc q => k c v ?_ q) (fun _ q => q) fun _ _ q => q
    rcases hc with z | z
    · rw [z]; exact nit b u e
    · exact nit c _ z
theorem Inv.tok (I : Inv X pins σ H s) (t : Nat) : Inv X pins σ H { s with toks := t } := I.un (h' := s.heap) (t' := t) Un.refl I.hok
theorem Inv.kept {t' : Nat} (I : Inv X pins σ H s) (k : ∀ b u, s.heap.get? b = some u → h'.get? b = some u) : Inv X pins σ H { s with heap := h', toks := t' } := I.un (Un.kept k) (I.hok.kept k)
theorem Inv.laid {a : Addr} {o : HO} {t' : Nat} (I : Inv X pins σ H s) (k : ∀ b u, s.heap.get? b = some u → h'.get? b = some u) (hp : s.heap.objs.size ≤ a) (new : ObjOk X.prog X.w (upd H a o) h' a o) :
    Inv X pins σ (upd H a o) { s with heap := h', toks := t' } := I.un (Un.laid k hp (I.hok.fresh hp)) (I.hok.laid k hp new)
theorem Inv.write {x e : Addr} {o : HO} {t' : Nat} (I : Inv X pins σ H s) (mu : Mut (H x)) (he : e = x ∨ H e = some (.own x)) (k : ∀ b u, b ≠ e → s.heap.get? b = some u → h'.get? b = some u) (heo : ∃ u, h'.get? e = some u)
    (new : ObjOk X.prog X.w (upd H x o) h' x o) : Inv X pins σ (upd H x o) { s with heap := h', toks := t' } := I.un (Un.write mu he k heo) (I.hok.write mu he k heo new)
theorem Inv.pins_of {pins' : List (Addr × Obj)} (I : Inv X pins σ H s) (h : ∀ p ∈ pins', s.heap.get? p.1 = some p.2 ∧ H p.1 = none ∧ p.1 ≠ X.env.locals ∧ p.1 ∉ X.fs ∧ ∀ v, p.2.data ≠ .cell v) : Inv X pins' σ H s :=
  ⟨I.ok, I.os, I.bare, I.base, I.loc, I.cell, I.free, I.freeC, fun p hp => (List.mem_append.mp hp).elim (fun z => I.pin p (List.mem_append_left _ z)) (h p), I.hok, I.len⟩
theorem nodup_ix {N : List Str} (hN : N.Nodup) {i j : Nat} {x : Str} (a : N[i]? = some x) (b : N[j]? = some x) : i = j := by
  obtain ⟨h1, e1⟩ := List.getElem?_eq_some_iff.mp a
  obtain ⟨h2, e2⟩ := List.getElem?_eq_some_iff.mp b
  exact (List.getElem_inj hN).mp (e1.trans e2.symm)
theorem store_ok2 {M : Model} {A : Around} {E : Value → Shared → Prop} {i : Nat} {x : Str} {v : V} {u : Value} {Q : Unit → Shared → Prop} (I : Inv X pins σ H s) (hN : X.N.Nodup) (hi : X.N[i]? = some x) (hx : Loc X.env.scope x) (r : RelV v u)
    (h : ∀ s', Inv X pins (σ.set i (some v)) H s' → (∃ a, Heap.SameBut a s.heap s'.heap ∧ (a = X.env.locals ∨ X.env.cells.lookup x = some a)) → Q () s') (hf : X.fn x = true ∨ X.env.scope.names.lookup x = some .local := by first | exact .inl rfl | exact .inr rfl | assumption) : wpAny M A (storeName X.env x u) Q E s := by
  obtain ⟨m, hn, hl⟩ := id I.loc
  have hcls : (X.env.scope.kind == .class || (X.env.scope.kind == .module && X.env.locals != X.env.globals)) = false := by rw [I.ok.kind]; rfl
  have hiσ : i < σ.length := by rw [I.len]; exact (List.getElem?_eq_some_iff.mp hi).1
  have cne := I.cne
  have tracked : ∀ {a : Addr} {h' : Heap}, (∃ o, s.heap.get? a = some o ∧ H a = none) → Heap.SameBut a s.heap h' → HOk X.prog X.w H h' := fun {a h'} ha hs b ob e => by
    obtain ⟨_, _, hfree⟩ := ha
    refine (I.hok b ob e).stay (fun c w' hc q => (hs.2 c ?_).trans q) (fun _ q => q) fun _ _ q => q
    rintro rfl
    rcases hc with rfl | hc
    · rw [hfree] at e; cases e
    · rw [hfree] at hc; cases hc
  rcases hx with hk | hk
  · refine wpAny_storeName_local hk hn (fun h' hn' hs => ?_) hcls
    obtain ⟨oL, _, _, hoL, _⟩ := id hn
    refine h _ ⟨I.ok, I.os, I.bare, ⟨fun b o e n hb hx => ?_, fun b o e n hb hx => ?_, I.base.free, fun b o e hx => ?_, I.base.tups, I.base.frzs, I.base.tbls⟩, ⟨_, hn', fun j y v' e1 e2 e3 => ?_⟩, fun y c e => ?_, I.free, I.freeC, fun p hp => ?_, tracked ⟨oL, hoL, I.free⟩ hs, by simpa using I.len⟩ ⟨_, hs, .inl rfl⟩
    · exact (hs.2 b (Nat.ne_of_lt (Nat.lt_of_lt_of_le (Heap.lt_size e) I.ok.above))).trans (I.base.keep b o e n hb hx)
    · obtain ⟨sl, e1⟩ := I.base.slot b o e n hb hx
      exact ⟨sl, (hs.2 b (Nat.ne_of_lt (Nat.lt_of_lt_of_le (Heap.lt_size e) I.ok.above))).trans e1⟩
    · obtain ⟨o', e1⟩ := I.base.there b o e hx
      exact ⟨o', (hs.2 b (Nat.ne_of_lt (Nat.lt_of_lt_of_le (Heap.lt_size e) I.ok.above))).trans e1⟩
    · by_cases hj : j = i
      · subst hj
        rw [hi] at e1; cases e1
        rw [List.getElem?_set_self hiσ] at e2
        cases e2
        exact ⟨u, r, .inl ⟨hk, by simp⟩⟩
      · rw [List.getElem?_set_ne (Ne.symm hj)] at e2
        obtain ⟨u', r', q⟩ := hl j y v' e1 e2 e3
        refine ⟨u', r', ?_⟩
        rcases q with ⟨k, e⟩ | ⟨k, c, e, z⟩
        · refine .inl ⟨k, ?_⟩
          have : y ≠ x := fun e => hj (nodup_ix hN e1 (e ▸ hi))
          simp [this, e]
        · exact .inr ⟨k, c, e, z.sameBut hs (cne y c e)⟩
    · obtain ⟨w', z⟩ := I.cell y c e
      exact ⟨w', z.sameBut hs (cne y c e)⟩
    · obtain ⟨e, n, ne, nf, d⟩ := I.pin p hp
      exact ⟨(hs.2 p.1 ne).trans e, n, ne, nf, d⟩
  · have hfn : X.fn x = true := by
      rcases hf with z | z
      · exact z
      · rw [z] at hk; cases hk
    obtain ⟨c, hc⟩ := I.ok.has x (.inl hk)
    obtain ⟨w', z⟩ := I.cell x c hc
    refine wpAny_storeName_cell I.ok.kind hk hc z (fun h' hc' hs => ?_)
    obtain ⟨oc, hoc, hocd⟩ := id z
    refine h { s with heap := h' } ⟨I.ok, I.os, I.bare, ⟨fun b o e n hb hx => ?_, fun b o e n hb hx => ?_, I.base.free, fun b o e hx => ?_, I.base.tups, I.base.frzs, I.base.tbls⟩, ⟨m, hn.sameBut hs (Ne.symm (cne x c hc)), fun j y v' e1 e2 e3 => ?_⟩, fun y c' e => ?_, I.free, I.freeC, fun p hp => ?_, tracked ⟨oc, hoc, I.freeC x c hc⟩ hs, by simpa using I.len⟩ ⟨c, hs, .inr hc⟩
    · exact (hs.2 b (Nat.ne_of_lt (Nat.lt_of_lt_of_le (Heap.lt_size e) (I.ok.cab x c hfn hc)))).trans (I.base.keep b o e n hb hx)
    · obtain ⟨sl, e1⟩ := I.base.slot b o e n hb hx
      exact ⟨sl, (hs.2 b (Nat.ne_of_lt (Nat.lt_of_lt_of_le (Heap.lt_size e) (I.ok.cab x c hfn hc)))).trans e1⟩
    · obtain ⟨o', e1⟩ := I.base.there b o e hx
      exact ⟨o', (hs.2 b (Nat.ne_of_lt (Nat.lt_of_lt_of_le (Heap.lt_size e) (I.ok.cab x c hfn hc)))).trans e1⟩
    · by_cases hj : j = i
      · subst hj
        rw [hi] at e1; cases e1
        rw [List.getElem?_set_self hiσ] at e2
        cases e2
        exact ⟨u, r, .inr ⟨.inl hk, c, hc, hc'⟩⟩
      · rw [List.getElem?_set_ne (Ne.symm hj)] at e2
        obtain ⟨u', r', q⟩ := hl j y v' e1 e2 e3
        refine ⟨u', r', ?_⟩
        rcases q with q | ⟨k, c', e, z'⟩
        · exact .inl q
        · refine .inr ⟨k, c', e, z'.sameBut hs ?_⟩
          rintro rfl
          exact hj (nodup_ix hN e1 (I.ok.inj _ _ _ e hc ▸ hi))
    · by_cases hcc : c' = c
      · subst hcc; exact ⟨_, hc'⟩
      · obtain ⟨w2, z2⟩ := I.cell y c' e
        exact ⟨w2, z2.sameBut hs hcc⟩
    · obtain ⟨e, n, ne, nf, d⟩ := I.pin p hp
      refine ⟨(hs.2 p.1 ?_).trans e, n, ne, nf, d⟩
      intro q
      rw [q, hoc] at e
      have q' : oc = p.2 := Option.some.inj e
      exact d w' (by rw [← q']; exact hocd)
theorem store_ok {M : Model} {A : Around} {E : Value → Shared → Prop} {i : Nat} {x : Str} {v : V} {u : Value} {Q : Unit → Shared → Prop} (I : Inv X pins σ H s) (hN : X.N.Nodup) (hi : X.N[i]? = some x) (hx : Loc X.env.scope x) (r : RelV v u)
    (h : ∀ s', Inv X pins (σ.set i (some v)) H s' → Q () s') (hf : X.fn x = true ∨ X.env.scope.names.lookup x = some .local := by first | exact .inl rfl | exact .inr rfl | assumption) : wpAny M A (storeName X.env x u) Q E s :=
  store_ok2 I hN hi hx r (fun s' I' _ => h s' I') hf
theorem Inv.call' {s' : Shared} {ch : List Addr} (I : Inv X pins σ H s) (ho : s'.os = s.os) (u : Un (frs X.stack) ch H H' s.heap s'.heap) (hok : HOk X.prog X.w H' s'.heap) (hg : AllBare s'.gens)
    (hch : ∀ b ∈ ch, (b ∈ X.ex ∨ X.s₀.heap.objs.size ≤ b) ∧ b ≠ X.env.locals ∧ (∀ x c, X.env.cells.lookup x = some c → c ≠ b) ∧ ∀ p ∈ X.pn ++ pins, p.1 ≠ b) : Inv X pins σ H' s' := by
  obtain ⟨h', g', d', t', o'⟩ := s'
  have e : o' = s.os := ho
  subst e
  exact I.call (g' := g') (t' := t') (d' := d') u hok hg hch
end
abbrev XK := Value → Option Addr → Hp → Prop
abbrev St := List (Option V)
abbrev VK := V → Hp → Prop
abbrev TE := St → Hp → VK → Prop
abbrev TT := St → Hp → (Bool → Hp → Prop) → Prop
abbrev TA := St → Hp → (List V → Hp → Prop) → Prop
structure Ends where
  nx : St → Hp → Prop
  rt : VK
  bk : St → Hp → Prop := fun _ _ => False
  ct : St → Hp → Prop := fun _ _ => False
abbrev TS := Ends → St → Hp → Prop
def EP (X : Cx) (pins : List (Addr × Obj)) (σ : St) (Q : VK) (u : Value) (s' : Shared) : Prop := ∃ v H', Inv X pins σ H' s' ∧ RelV v u ∧ Q v H'
def TP (X : Cx) (pins : List (Addr × Obj)) (σ : St) (Q : Bool → Hp → Prop) (b : Bool) (s' : Shared) : Prop := ∃ H', Inv X pins σ H' s' ∧ Q b H'
def AP (X : Cx) (pins : List (Addr × Obj)) (σ : St) (Q : List V → Hp → Prop) (us : List Value) (s' : Shared) : Prop := ∃ vs H', Inv X pins σ H' s' ∧ Vals vs us ∧ Q vs H'
def SP (X : Cx) (pins : List (Addr × Obj)) (D : Ends) (f : Flow) (s' : Shared) : Prop :=
  match f with
  | .next => ∃ σ' H', Inv X pins σ' H' s' ∧ D.nx σ' H'
  | .brk => ∃ σ' H', Inv X pins σ' H' s' ∧ D.bk σ' H'
  | .cont => ∃ σ' H', Inv X pins σ' H' s' ∧ D.ct σ' H'
  | .ret u => ∃ v σ' H', Inv X pins σ' H' s' ∧ RelV v u ∧ D.rt v H'
def PE (X : Cx) (e : Expr) (t : TE) : Prop :=
  ∀ (pins : List (Addr × Obj)) (s : Shared) (σ : St) (H : Hp) (Q : VK), Inv X pins σ H s → t σ H Q → wpAny (model X.prog X.w) X.A (eval e X.env) (EP X pins σ Q) X.xe s
def PT (X : Cx) (e : Expr) (t : TT) : Prop :=
  ∀ (pins : List (Addr × Obj)) (s : Shared) (σ : St) (H : Hp) (Q : Bool → Hp → Prop), Inv X pins σ H s → t σ H Q → wpAny (model X.prog X.w) X.A (isTrue e X.env (eval e X.env)) (TP X pins σ Q) X.xe s
def PW (X : Cx) (e : Expr) (t : TT) : Prop :=
  ∀ (whole : Sem Value) (pins : List (Addr × Obj)) (s : Shared) (σ : St) (H : Hp) (Q : Bool → Hp → Prop), Inv X pins σ H s → t σ H Q → wpAny (model X.prog X.w) X.A (isTrue e X.env whole) (TP X pins σ Q) X.xe s
theorem PW.pt {X : Cx} {e : Expr} {t : TT} (h : PW X e t) : PT X e t := h _
def PA (X : Cx) (es : List Expr) (t : TA) : Prop :=
  ∀ (pos : Pos) (pins : List (Addr × Obj)) (s : Shared) (σ : St) (H : Hp) (Q : List V → Hp → Prop), Inv X pins σ H s → t σ H Q → wpAny (model X.prog X.w) X.A (spliced (backTo pos (starEach es X.env))) (AP X pins σ Q) X.xe s
def PS (X : Cx) (st : Stmt) (t : TS) : Prop :=
  ∀ (pins : List (Addr × Obj)) (s : Shared) (σ : St) (H : Hp) (D : Ends), Inv X pins σ H s → t D σ H → wpAny (model X.prog X.w) X.A (exec st X.env) (SP X pins D) X.xe s
def PSs (X : Cx) (st : List Stmt) (t : TS) : Prop :=
  ∀ (pins : List (Addr × Obj)) (s : Shared) (σ : St) (H : Hp) (D : Ends), Inv X pins σ H s → t D σ H → wpAny (model X.prog X.w) X.A (execs st X.env) (SP X pins D) X.xe s
theorem thn {α : Type} {t : Sem α} {Q Q' : α → Shared → Prop} {M : Model} {A : Around} {E : Value → Shared → Prop} {s : Shared} (h : wpAny M A t Q E s) (hQ : ∀ a s, Q a s → Q' a s) : wpAny M A t Q' E s := wpAny_mono h hQ fun _ _ x => x
section
variable {X : Cx}
def tVar (i : Nat) : TE := fun σ H Q => ∃ v, σ[i]? = some (some v) ∧ Q v H
def tC (v : V) : TE := fun _ H Q => Q v H
theorem pe_var {i : Nat} {x : Str} {pos : Pos} (hN : X.N[i]? = some x) (hv : Vis X.env.scope x) (hd : (x == ("__debug__" : Str)) = false := by decide) (hcd : (x == ("__classdict__" : Str)) = false := by decide) : PE X (.Name x pos) (tVar i) := by
  intro pins s σ H Q I h
  obtain ⟨v, e, h⟩ := h
  obtain ⟨m, hn, hl⟩ := I.loc
  obtain ⟨u, r, l⟩ := hl i x v hN e hv
  have fin : EP X pins σ Q u s := ⟨v, H, I, r, h⟩
  rcases l with ⟨hk, hm⟩ | ⟨hk, c, hc, hcell⟩
  · exact wpAny_Name (wpAny_loadName_local I.ok.kind hk hn hm fin) hd
  · rcases hk with hk | hk
    · exact wpAny_Name (wpAny_loadName_cell I.ok.kind hk hc hcell fin) hd
    · exact wpAny_Name (wpAny_loadName_free I.ok.kind hk hc hcell fin hcd) hd
theorem pe_int {i j pos} : PE X (.Constant (.int i) j pos) (tC (.int i)) := fun _ _ _ H _ I h => wpAny_Constant_int ⟨.int i, H, I.tok _, ⟨_, rfl⟩, h⟩
theorem pe_bl {b j pos} : PE X (.Constant (.bool b) j pos) (tC (.bl b)) := fun _ _ _ H _ I h => Constant_bool ⟨.bl b, H, I, rfl, h⟩
theorem pe_non {j pos} : PE X (.Constant .none j pos) (tC .non) := fun _ _ _ H _ I h => Constant_none ⟨.non, H, I, rfl, h⟩
theorem pe_str {x j pos} : PE X (.Constant (.str x) j pos) (tC (.str x)) := fun _ _ _ H _ I h => Calls.Constant_str ⟨.str x, H, I.tok _, ⟨_, rfl⟩, h⟩
def Gl (X : Cx) (x : Str) : Prop := X.env.kindOf x = some .globalImplicit
theorem ld_glob {E : Value → Shared → Prop} {pins : List (Addr × Obj)} {s : Shared} {σ : St} {H : Hp} {x : Str} {u : Value} {pos : Pos} {Q : Value → Shared → Prop} (I : Inv X pins σ H s) (hg : Gl X x) (hm : X.mg x = some u) (h : Q u s)
    (hd : (x == ("__debug__" : Str)) = false := by decide) : wpAny (model X.prog X.w) X.A (eval (.Name x pos) X.env) Q E s :=
  Calls.Name_function_global I.ok.kind hg (Calls.loadGlobal_global (by rw [I.ok.glob]; exact I.mod.glob.keeps I.bk) hm h) hd
theorem ld_blt {E : Value → Shared → Prop} {pins : List (Addr × Obj)} {s : Shared} {σ : St} {H : Hp} {x : Str} {u : Value} {pos : Pos} {Q : Value → Shared → Prop} (I : Inv X pins σ H s) (hg : Gl X x) (hm : X.mg x = none) (hv : bootBuiltins x = some u) (h : Q u s)
    (hn : x ≠ "__name__" := by decide) (hd : (x == ("__debug__" : Str)) = false := by decide) : wpAny (model X.prog X.w) X.A (eval (.Name x pos) X.env) Q E s := by
  obtain ⟨mb, h1, h2⟩ := I.mod.blt
  exact Calls.Name_function_global I.ok.kind hg (Calls.loadGlobal_builtin (by rw [I.ok.glob]; exact I.mod.glob.keeps I.bk) hm (by rw [I.ok.blt]; exact h1.keeps I.bk) ((h2 x hn).trans hv) h) hd
theorem pe_glob {x : Str} {v : V} {u : Value} {pos : Pos} (hg : Gl X x) (hm : X.mg x = some u) (r : RelV v u) (hd : (x == ("__debug__" : Str)) = false := by decide) : PE X (.Name x pos) (tC v) :=
  fun _ _ _ H _ I h => ld_glob I hg hm ⟨v, H, I, r, h⟩ hd
theorem pe_bltn {x : Str} {v : V} {u : Value} {pos : Pos} (hg : Gl X x) (hm : X.mg x = none) (hv : bootBuiltins x = some u) (r : RelV v u) (hn : x ≠ "__name__" := by decide) (hd : (x == ("__debug__" : Str)) = false := by decide) : PE X (.Name x pos) (tC v) :=
  fun _ _ _ H _ I h => ld_blt I hg hm hv ⟨v, H, I, r, h⟩ hn hd
variable {a b : Expr} {ta tb : TE} {pos : Pos}
def PC (X : Cx) (op : CmpOp) (a b : Expr) (t : TE) : Prop :=
  ∀ (pins : List (Addr × Obj)) (s : Shared) (σ : St) (H : Hp) (Q : VK), Inv X pins σ H s → t σ H Q →
    wpAny (model X.prog X.w) X.A (eval a X.env) (fun v s₁ => wpAny (model X.prog X.w) X.A (eval b X.env) (fun u s₂ => wpAny (model X.prog X.w) X.A (compareOp op v u) (EP X pins σ Q) X.xe s₂) X.xe s₁) X.xe s
def tB (t : TE) : TT := fun σ H Q => t σ H fun x H1 => ∃ c, x = .bl c ∧ Q c H1
theorem pt_cmp {op : CmpOp} {t : TE} (h : PC X op a b t) (h1 : behindInMarks op b = false := by first | exact nobehind _ (by decide) (by decide) | rfl) : PT X (.Compare a [op] [b] pos) (tB t) := by
  intro pins s σ H Q I hw
  refine wpAny_isTrue_Compare1 (thn (h pins s σ H _ I hw) fun v s1 h1 => thn h1 fun u s2 h2 => thn h2 fun c s3 ⟨x, H1, I1, r1, q1⟩ => ?_) h1
  obtain ⟨d, rfl, q⟩ := q1
  cases r1
  exact wpAny_truthy_bool ⟨H1, I1, q⟩
theorem pt_val {e : Expr} {t : TE} (h : PE X e t) (he : ∀ whole, isTrue e X.env whole = (do let v ← whole; standAt e.pos; holding [v] (truthy v)) := by intro _; rfl) : PT X e (tB t) := by
  intro pins s σ H Q I hw
  refine isTrue_plain (thn (h pins s σ H _ I hw) fun v s1 ⟨x, H1, I1, r1, q1⟩ => ?_) (he _)
  obtain ⟨d, rfl, q⟩ := q1
  cases r1
  exact wpAny_truthy_bool ⟨H1, I1, q⟩
variable {tA tB' : TT} {rest : List Expr}
def tAnd (t u : TT) : TT := fun σ H Q => t σ H fun c H1 => if c = true then u σ H1 Q else Q false H1
def tOr (t u : TT) : TT := fun σ H Q => t σ H fun c H1 => if c = true then Q true H1 else u σ H1 Q
def tNot (t : TT) : TT := fun σ H Q => t σ H fun c H1 => Q (!c) H1
theorem pw_and1 (ha : PT X a tA) : PW X (.BoolOp .And [a] pos) tA := by
  intro wh pins s σ H Q I h
  refine isTrue_and (thn (ha pins s σ H Q I h) fun c s1 e => ?_)
  cases c with
  | true => exact isTrue_and_nil e
  | false => exact e
theorem pw_or1 (ha : PT X a tA) : PW X (.BoolOp .Or [a] pos) tA := by
  intro wh pins s σ H Q I h
  refine isTrue_or (thn (ha pins s σ H Q I h) fun c s1 e => ?_)
  cases c with
  | false => exact isTrue_or_nil e
  | true => exact e
theorem pw_and (ha : PT X a tA) (hb : PW X (.BoolOp .And (b :: rest) pos) tB') : PW X (.BoolOp .And (a :: b :: rest) pos) (tAnd tA tB') := by
  intro wh pins s σ H Q I h
  refine isTrue_and (thn (ha pins s σ H _ I h) fun c s1 ⟨H1, I1, q1⟩ => ?_)
  cases c with
  | true => exact hb wh pins s1 σ H1 Q I1 q1
  | false => exact ⟨H1, I1, q1⟩
theorem pw_or (ha : PT X a tA) (hb : PW X (.BoolOp .Or (b :: rest) pos) tB') : PW X (.BoolOp .Or (a :: b :: rest) pos) (tOr tA tB') := by
  intro wh pins s σ H Q I h
  refine isTrue_or (thn (ha pins s σ H _ I h) fun c s1 ⟨H1, I1, q1⟩ => ?_)
  cases c with
  | true => exact ⟨H1, I1, q1⟩
  | false => exact hb wh pins s1 σ H1 Q I1 q1
theorem pt_not (ha : PT X a tA) : PT X (.UnaryOp .Not a pos) (tNot tA) := by
  intro pins s σ H Q I h
  exact isTrue_not (ha pins s σ H (fun c H1 => Q (!c) H1) I h)
def tAndV (ta tb : TE) : TE := fun σ H Q => ta σ H fun x H1 => ∃ c, x = .bl c ∧ if c = true then tb σ H1 Q else Q (.bl false) H1
def tNotV (ta : TE) : TE := fun σ H Q => ta σ H fun x H1 => ∃ c, x = .bl c ∧ Q (.bl (!c)) H1
theorem pe_one {op} {t : TE} (h : PE X a t) : PE X (.BoolOp op [a] pos) t := fun pins s σ H Q I hw => BoolOp_one (h pins s σ H Q I hw)
theorem pe_and (ha : PE X a ta) (hb : PE X (.BoolOp .And (b :: rest) pos) tb) : PE X (.BoolOp .And (a :: b :: rest) pos) (tAndV ta tb) := by
  intro pins s σ H Q I h
  refine BoolOp_and (thn (ha pins s σ H _ I h) fun v s1 ⟨x, H1, I1, r1, q1⟩ => ?_)
  obtain ⟨c, rfl, q1⟩ := q1
  cases r1
  refine wpAny_truthy_bool ?_
  cases c with
  | true => exact hb pins s1 σ H1 Q I1 q1
  | false => exact ⟨.bl false, H1, I1, rfl, q1⟩
theorem pe_not (ha : PE X a ta) : PE X (.UnaryOp .Not a pos) (tNotV ta) := by
  intro pins s σ H Q I h
  refine UnaryOp_ (thn (ha pins s σ H _ I h) fun v s1 ⟨x, H1, I1, r1, q1⟩ => ?_)
  obtain ⟨c, rfl, q1⟩ := q1
  cases r1
  exact not_of (wpAny_truthy_bool ⟨.bl (!c), H1, I1, rfl, q1⟩)
def tIf (t : TT) (ta tb : TE) : TE := fun σ H Q => t σ H fun c H1 => if c = true then ta σ H1 Q else tb σ H1 Q
theorem pe_ifExp {c : Expr} (hc : PT X c tA) (ha : PE X a ta) (hb : PE X b tb) : PE X (.IfExp c a b pos) (tIf tA ta tb) := by
  intro pins s σ H Q I h
  refine wpAny_IfExp (thn (hc pins s σ H _ I h) fun d s1 ⟨H1, I1, q1⟩ => ?_)
  cases d with
  | true => exact ha pins s1 σ H1 Q I1 q1
  | false => exact hb pins s1 σ H1 Q I1 q1
end
def SqL (K : PySem.W.Frag) (H : Hp) (a : Addr) (xs : List V) : Prop :=
  Rd H a (.lst xs) ∨
    ∃ (o : Obj) (its : Array Value) (n : Nat), K.lookup a = some o ∧ o.cls = .type "list" ∧ o.dict = none ∧ o.data = .seq its n ∧ its.size ≤ sizeLine ∧ Vals xs its.toList
def SqT (K : PySem.W.Frag) (H : Hp) (a : Addr) (xs : List V) : Prop :=
  Rd H a (.tup xs) ∨
    ∃ (o : Obj) (its : Array Value) (n : Nat), K.lookup a = some o ∧ o.cls = .type "tuple" ∧ o.data = .seq its n ∧ its.size ≤ sizeLine ∧ Vals xs its.toList
def absV : Value → Option V
  | .none => some .non
  | .bool b => some (.bl b)
  | .int i _ => some (.int i)
  | .str x _ => some (.str x)
  | .bytes b _ => some (.byt b)
  | .float b _ => some (.flt b)
  | .ref a => some (.ref a)
  | .type n => some (.ty n)
  | _ => none
theorem RelV.abs {x : V} {u : Value} (r : RelV x u) : absV u = some x := by
  cases x with
  | non => cases r; rfl
  | bl _ => cases r; rfl
  | int _ => obtain ⟨t, rfl⟩ := r; rfl
  | str _ => obtain ⟨t, rfl⟩ := r; rfl
  | byt _ => obtain ⟨t, rfl⟩ := r; rfl
  | flt _ => obtain ⟨t, rfl⟩ := r; rfl
  | ref _ => cases r; rfl
  | ty _ => cases r; rfl
theorem RelV.inj {x y : V} {u : Value} (r : RelV x u) (q : RelV y u) : x = y := Option.some.inj (r.abs.symm.trans q.abs)
theorem Vals.inj : ∀ {xs ys : List V} {us : List Value}, Vals xs us → Vals ys us → xs = ys
  | _, _, _, .nil, .nil => rfl
  | _, _, _, .cons r t, .cons r' t' => by rw [r.inj r', Vals.inj t t']
section
variable {X : Cx} {pins : List (Addr × Obj)} {σ : St} {H : Hp} {s : Shared} {a : Addr} {xs ys : List V}
theorem SqL.of {K : PySem.W.Frag} (h : H a = some (.lst xs)) : SqL K H a xs := .inl (.inl h)
theorem SqT.of {K : PySem.W.Frag} (h : H a = some (.tup xs)) : SqT K H a xs := .inl (.inl h)
theorem Inv.list (I : Inv X pins σ H s) (h : SqL X.K H a xs) : ∃ its : List Value, Vals xs its ∧ PlainL s.heap a its.toArray ∧ xs.length ≤ sizeLine := by
  rcases h with h | ⟨o, its, n, hk, hc, hd, hs, hz, r⟩
  · obtain ⟨z, its, n, r, e⟩ := h.ok I.hok
    exact ⟨its, r, ⟨_, n, e, rfl, rfl, rfl⟩, z⟩
  · refine ⟨its.toList, r, ⟨o, n, I.kIn a o hk, hc, hd, by simpa using hs⟩, ?_⟩
    have e := r.length
    simp only [Array.length_toList] at e
    omega
theorem Inv.tuple (I : Inv X pins σ H s) (h : SqT X.K H a xs) : ∃ its : List Value, Vals xs its ∧ IsTup s.heap a its.toArray ∧ xs.length ≤ sizeLine := by
  rcases h with h | ⟨o, its, n, hk, hc, hs, hz, r⟩
  · obtain ⟨z, its, r, p⟩ := h.ok I.hok
    exact ⟨its, r, p, z⟩
  · refine ⟨its.toList, r, ⟨o, I.kIn a o hk, hc, n, by simpa using hs⟩, ?_⟩
    have e := r.length
    simp only [Array.length_toList] at e
    omega
theorem Inv.list_inj (I : Inv X pins σ H s) (h : SqL X.K H a xs) (h' : SqL X.K H a ys) : xs = ys := by
  obtain ⟨its, r, ⟨o, n, e, _, _, d⟩, _⟩ := I.list h
  obtain ⟨its', r', ⟨o', n', e', _, _, d'⟩, _⟩ := I.list h'
  rw [e] at e'; cases e'
  rw [d] at d'
  injection d' with d1 _
  have : its = its' := by simpa using congrArg Array.toList d1
  subst this
  exact r.inj r'
theorem Inv.tuple_inj (I : Inv X pins σ H s) (h : SqT X.K H a xs) (h' : SqT X.K H a ys) : xs = ys := by
  obtain ⟨its, r, ⟨o, e, _, n, d⟩, _⟩ := I.tuple h
  obtain ⟨its', r', ⟨o', e', _, n', d'⟩, _⟩ := I.tuple h'
  rw [e] at e'; cases e'
  rw [d] at d'
  injection d' with d1 _
  have : its = its' := by simpa using congrArg Array.toList d1
  subst this
  exact r.inj r'
end
abbrev Cx.wish (X : Cx) (E : Value → Shared → Prop) : Cx := { X with xe := E }
abbrev Cx.nox (X : Cx) : Cx := X.wish fun _ _ => False
theorem Cx.Ok.wish {X : Cx} (ok : X.Ok) (E : Value → Shared → Prop) : (X.wish E).Ok :=
  ⟨ok.mod, ok.kind, ok.glob, ok.blt, ok.above, ok.inj, ok.has, ok.cab, ok.hd, ok.frames, ok.stk, ok.exf, ok.bs, ok.bsz, ok.noex, ok.exfs, ok.funs, ok.frf⟩
theorem Cx.Ok.unwish {X : Cx} {E : Value → Shared → Prop} (ok : (X.wish E).Ok) : X.Ok :=
  ⟨ok.mod, ok.kind, ok.glob, ok.blt, ok.above, ok.inj, ok.has, ok.cab, ok.hd, ok.frames, ok.stk, ok.exf, ok.bs, ok.bsz, ok.noex, ok.exfs, ok.funs, ok.frf⟩
section
variable {X : Cx} {pins : List (Addr × Obj)} {σ : St} {H : Hp} {s : Shared} {E : Value → Shared → Prop}
theorem Inv.wish (I : Inv X pins σ H s) (E : Value → Shared → Prop) : Inv (X.wish E) pins σ H s := ⟨I.ok.wish E, I.os, I.bare, I.base, I.loc, I.cell, I.free, I.freeC, I.pin, I.hok, I.len⟩
theorem Inv.unwish (I : Inv (X.wish E) pins σ H s) : Inv X pins σ H s := ⟨I.ok.unwish, I.os, I.bare, I.base, I.loc, I.cell, I.free, I.freeC, I.pin, I.hok, I.len⟩
theorem SP.unwish {D : Ends} {f : Flow} {s' : Shared} (h : SP (X.wish E) pins D f s') : SP X pins D f s' := by
  cases f with
  | next => obtain ⟨σ', H', I, q⟩ := h; exact ⟨σ', H', I.unwish, q⟩
  | brk => obtain ⟨σ', H', I, q⟩ := h; exact ⟨σ', H', I.unwish, q⟩
  | cont => obtain ⟨σ', H', I, q⟩ := h; exact ⟨σ', H', I.unwish, q⟩
  | ret u => obtain ⟨v, σ', H', I, r, q⟩ := h; exact ⟨v, σ', H', I.unwish, r, q⟩
theorem PE.nox {e : Expr} {t : TE} (h : PE X.nox e t) : PE X e t := fun pins s σ H Q I hw =>
  wpAny_mono (h pins s σ H Q (I.wish _) hw) (fun _ _ ⟨v, H', I', r, q⟩ => ⟨v, H', I'.unwish, r, q⟩) fun _ _ z => False.elim z
theorem PT.nox {e : Expr} {t : TT} (h : PT X.nox e t) : PT X e t := fun pins s σ H Q I hw =>
  wpAny_mono (h pins s σ H Q (I.wish _) hw) (fun _ _ ⟨H', I', q⟩ => ⟨H', I'.unwish, q⟩) fun _ _ z => False.elim z
theorem PSs.nox {st : List Stmt} {t : TS} (h : PSs X.nox st t) : PSs X st t := fun pins s σ H D I hw =>
  wpAny_mono (h pins s σ H D (I.wish _) hw) (fun _ _ q => q.unwish) fun _ _ z => False.elim z
end
section
variable {X : Cx} {st : Stmt} {rest : List Stmt} {t u : TS} {e : Expr} {te : TE} {pos : Pos}
def tNext : TS := fun D σ H => D.nx σ H
def tSeq (t u : TS) : TS := fun D σ H => t { D with nx := u D } σ H
theorem pss_nil : PSs X [] tNext := fun _ _ σ H _ I h => wpAny_execs_nil ⟨σ, H, I, h⟩
theorem pss_cons (h1 : PS X st t) (h2 : PSs X rest u) : PSs X (st :: rest) (tSeq t u) := by
  intro pins s σ H D I h
  refine wpAny_execs_cons (thn (h1 pins s σ H { D with nx := u D } I h) fun f s1 q => ?_)
  cases f with
  | next =>
    obtain ⟨σ', H', I', q⟩ := q
    exact h2 pins s1 σ' H' D I' q
  | ret v => exact q
  | brk => exact q
  | cont => exact q
theorem pss_one (h1 : PS X st t) : PSs X [st] t := by
  intro pins s σ H D I h
  refine wpAny_execs_cons (thn (h1 pins s σ H D I h) fun f s1 q => ?_)
  cases f with
  | next => exact wpAny_execs_nil q
  | ret v => exact q
  | brk => exact q
  | cont => exact q
theorem Inv.quiet {pins : List (Addr × Obj)} {σ : St} {H : Hp} {s : Shared} (I : Inv X pins σ H s) : interactive X.env = false := by simp [interactive, I.ok.kind]
def tDrop (te : TE) : TS := fun D σ H => te σ H fun _ H1 => D.nx σ H1
theorem ps_expr (he : PE X e te) (hs : swapsWith e none pos.line X.env = pure false := by rfl) : PS X (.Expr e pos) (tDrop te) := by
  intro pins s σ H D I h
  exact wpAny_Expr_any (thn (he pins s σ H _ I h) fun v s1 ⟨x, H1, I1, r1, q1⟩ => ⟨σ, H1, I1, q1⟩) I.quiet hs
def tRet (te : TE) : TS := fun D σ H => te σ H D.rt
theorem ps_ret (he : PE X e te) : PS X (.Return (some e) pos) (tRet te) := by
  intro pins s σ H D I h
  exact wpAny_Return_some (thn (he pins s σ H _ I h) fun v s1 ⟨x, H1, I1, r1, q1⟩ => ⟨x, σ, H1, I1, r1, q1⟩)
def tIfS (c : TT) (t u : TS) : TS := fun D σ H => c σ H fun b H1 => if b = true then t D σ H1 else u D σ H1
theorem ps_if {c : Expr} {a b : List Stmt} {tc : TT} (hc : PT X c tc) (ha : PSs X a t) (hb : PSs X b u) : PS X (.If c a b pos) (tIfS tc t u) := by
  intro pins s σ H D I h
  refine wpAny_If (thn (hc pins s σ H _ I h) fun d s1 ⟨H1, I1, q1⟩ => ?_)
  cases d with
  | true => exact ha pins s1 σ H1 D I1 q1
  | false => exact hb pins s1 σ H1 D I1 q1
end
abbrev TG := V → St → Hp → (St → Hp → Prop) → Prop
abbrev TGs := List V → St → Hp → (St → Hp → Prop) → Prop
def PG (X : Cx) (target : Expr) (t : TG) : Prop :=
  ∀ (pins : List (Addr × Obj)) (s : Shared) (σ : St) (H : Hp) (v : V) (u : Value) (Q : St → Hp → Prop), Inv X pins σ H s → RelV v u → t v σ H Q →
    wpAny (model X.prog X.w) X.A (assign target X.env u) (fun _ s' => ∃ σ' H', Inv X pins σ' H' s' ∧ Q σ' H') X.xe s
def PGs (X : Cx) (ts : List Expr) (t : TGs) : Prop :=
  ∀ (pins : List (Addr × Obj)) (s : Shared) (σ : St) (H : Hp) (vs : List V) (us : List Value) (Q : St → Hp → Prop), Inv X pins σ H s → Vals vs us → t vs σ H Q →
    wpAny (model X.prog X.w) X.A (assignInOrder ((assignEach ts X.env).map (·.2)) us) (fun _ s' => ∃ σ' H', Inv X pins σ' H' s' ∧ Q σ' H') X.xe s
abbrev TSet := V → V → V → Hp → (Hp → Prop) → Prop
def PSet (X : Cx) (t : TSet) : Prop :=
  ∀ (pins : List (Addr × Obj)) (s : Shared) (σ : St) (H : Hp) (o i v : V) (ov iv u : Value) (Q : Hp → Prop), Inv X pins σ H s → RelV o ov → RelV i iv → RelV v u → t o i v H Q →
    wpAny (model X.prog X.w) X.A (setItem ov iv u) (fun _ s' => ∃ H', Inv X pins σ H' s' ∧ Q H') X.xe s
section
variable {X : Cx} {pos : Pos}
def gName (i : Nat) : TG := fun v σ H Q => Q (σ.set i (some v)) H
theorem pg_name {i : Nat} {x : Str} (hN : X.N.Nodup) (hi : X.N[i]? = some x) (hx : Loc X.env.scope x) (hf : X.fn x = true ∨ X.env.scope.names.lookup x = some .local := by first | exact .inl rfl | exact .inr rfl | assumption) : PG X (.Name x pos) (gName i) := by
  intro pins s σ H v u Q I r h
  exact wpAny_assign_Name (store_ok I hN hi hx r (fun s' I' => ⟨_, H, I', h⟩) hf)
def gNil : TGs := fun vs σ H Q => vs = [] ∧ Q σ H
def gCons (t : TG) (u : TGs) : TGs := fun vs σ H Q => ∃ v r, vs = v :: r ∧ t v σ H fun σ' H' => u r σ' H' Q
theorem pgs_nil : PGs X [] gNil := by
  intro pins s σ H vs us Q I r h
  obtain ⟨e, h⟩ := h
  subst e
  cases r
  exact assignInOrder_nil ⟨σ, H, I, h⟩
theorem pgs_cons {e : Expr} {es : List Expr} {t : TG} {u : TGs} (h1 : PG X e t) (h2 : PGs X es u)
    (hs : (assignEach (e :: es) X.env).map (·.2) = assign e X.env :: (assignEach es X.env).map (·.2) := by rfl) : PGs X (e :: es) (gCons t u) := by
  intro pins s σ H vs us Q I r h
  obtain ⟨v, vr, e1, h⟩ := h
  subst e1
  cases r with
  | cons r rr =>
    rw [hs]
    refine assignInOrder_cons (thn (h1 pins s σ H _ _ _ I r h) fun _ s1 ⟨σ1, H1, I1, q1⟩ => ?_)
    exact h2 pins s1 σ1 H1 _ _ Q I1 rr q1
def gTup (K : PySem.W.Frag) (n : Nat) (t : TGs) : TG := fun v σ H Q => ∃ a xs, v = .ref a ∧ SqT K H a xs ∧ xs.length = n ∧ t xs σ H Q
theorem pg_tup {es : List Expr} {k : Nat} {t : TGs} {n : Nat} (hc : X.calm = true) (h : PGs X es t)
    (hn : (assignEach es X.env).length = n := by rfl) (hst : (assignEach es X.env).findIdx? (·.1) = none := by rfl) : PG X (.Tuple es k pos) (gTup X.K n t) := by
  intro pins s σ H v u Q I r hw
  obtain ⟨a, xs, e1, hq, hl, hw⟩ := hw
  subst e1
  cases r
  obtain ⟨its, rv, ht, hz⟩ := I.tuple hq
  refine assign_Tuple_tuple (I.ok.hd hc) ht (by simp [hn, ← hl, rv.length]) hst fun h' hx => ?_
  have I1 : Inv X pins σ H { s with heap := h' } := I.kept (t' := s.toks) fun b o e => hx b o (Nat.ne_of_lt (Heap.lt_size e)) e
  exact h pins _ σ H xs _ Q I1 (by simpa using rv) hw
def gSub (to ti : TE) (t : TSet) : TG := fun v σ H Q => to σ H fun o H1 => ti σ H1 fun i H2 => t o i v H2 fun H3 => Q σ H3
theorem pg_sub {o i : Expr} {to ti : TE} {t : TSet} (ho : PE X o to) (hi : PE X i ti) (hs : PSet X t)
    (ha : ∀ v, assign (.Subscript o i pos) X.env v = (do
      let ov ← holding [v] (eval o X.env)
      let iv ← holding [v, ov] (eval i X.env)
      standAt pos
      holding [v, ov, iv] (setItem ov iv v)
      release [v, ov, iv] []) := by intro _; rfl) : PG X (.Subscript o i pos) (gSub to ti t) := by
  intro pins s σ H v u Q I r h
  rw [ha]
  refine wpAny_bind (wpAny_holding (thn (ho pins s σ H _ I h) fun ov s1 ⟨x, H1, I1, r1, q1⟩ => ?_))
  refine wpAny_bind (wpAny_holding (thn (hi pins s1 σ H1 _ I1 q1) fun iv s2 ⟨y, H2, I2, r2, q2⟩ => ?_))
  refine wpAny_bind (wpAny_standAt (wpAny_bind (wpAny_holding (thn (hs pins s2 σ H2 x y v ov iv u _ I2 r1 r2 r q2) fun _ s3 ⟨H3, I3, q3⟩ => ?_))))
  exact wpAny_release ⟨σ, H3, I3, q3⟩
def tAsg (te : TE) (g : TG) : TS := fun D σ H => te σ H fun x H1 => g x σ H1 D.nx
theorem ps_asg {tg e : Expr} {te : TE} {g : TG} (he : PE X e te) (hg : PG X tg g) (hs : swapsWithSole [tg] e pos.line X.env = pure false := by rfl) (hw : swappedStores [tg] e X.env = pure none := by rfl)
    (h1 : (assignEach [tg] X.env).map (·.2) = [assign tg X.env] := by rfl) : PS X (.Assign [tg] e pos) (tAsg te g) := by
  intro pins s σ H D I h
  refine wpAny_Assign_stores (thn (he pins s σ H _ I h) fun v s1 ⟨x, H1, I1, r1, q1⟩ => ?_) hs hw
  rw [h1]
  exact thn (hg pins s1 σ H1 x v _ I1 r1 q1) fun _ s2 q => q
theorem ps_set {i : Nat} {x : Str} {e : Expr} {te : TE} {pos' : Pos} (hN : X.N.Nodup) (hi : X.N[i]? = some x) (hx : Loc X.env.scope x) (he : PE X e te) (hs : swapsWith e (some (.Name x pos')) pos.line X.env = pure false := by rfl) (hf : X.fn x = true ∨ X.env.scope.names.lookup x = some .local := by first | exact .inl rfl | exact .inr rfl | assumption) :
    PS X (.Assign [.Name x pos'] e pos) (tAsg te (gName i)) := by
  intro pins s σ H D I h
  refine wpAny_Assign_Name (thn (he pins s σ H _ I h) fun v s1 ⟨y, H1, I1, r1, q1⟩ => ?_) hs
  exact store_ok I1 hN hi hx r1 (fun s2 I2 => ⟨_, H1, I2, q1⟩) hf
end
section
variable {X : Cx} {pos : Pos}
def tWhile (c : TT) (tb : TS) : TS := fun D σ H => ∃ W : Nat → St → Hp → Prop, (∃ m, W m σ H) ∧ ∀ m σ H, W m σ H →
  c σ H fun b H1 => if b = true then ∃ N : St → Hp → Prop, (∀ σ' H', N σ' H' → ∃ m', m' < m ∧ W m' σ' H') ∧ tb { D with nx := N, ct := N, bk := D.nx } σ H1 else D.nx σ H1
theorem ps_while {c : Expr} {body : List Stmt} {tc : TT} {tb : TS} (hp : PassesOwn (model X.prog X.w) X.A X.env X.xe) (hc : PT X c tc) (hb : PSs X body tb) : PS X (.While c body [] pos) (tWhile tc tb) := by
  intro pins s σ H D I h
  obtain ⟨W, ⟨m0, w0⟩, turn⟩ := h
  refine wpAny_While (codeAny_whileLoop (fun n s' => ∃ σ' H', Inv X pins σ' H' s' ∧ W n σ' H') ?_ m0 ⟨σ, H, I, w0⟩)
  rintro n s1 ⟨σ1, H1, I1, w1⟩
  refine wpAny_passesOwn hp (thn (hc pins s1 σ1 H1 _ I1 (turn n σ1 H1 w1)) fun b s2 ⟨H2, I2, q2⟩ => ?_)
  cases b with
  | true =>
    obtain ⟨N, hN, q2⟩ := q2
    rw [if_pos rfl]
    refine wpAny_passesOwn hp (thn (hb pins s2 σ1 H2 _ I2 q2) fun f s3 q3 => ?_)
    cases f with
    | next =>
      obtain ⟨σ3, H3, I3, n3⟩ := q3
      obtain ⟨m', hm, w3⟩ := hN σ3 H3 n3
      exact ⟨m', hm, σ3, H3, I3, w3⟩
    | cont =>
      obtain ⟨σ3, H3, I3, n3⟩ := q3
      obtain ⟨m', hm, w3⟩ := hN σ3 H3 n3
      exact ⟨m', hm, σ3, H3, I3, w3⟩
    | brk => exact q3
    | ret v => exact q3
  | false =>
    rw [if_neg Bool.false_ne_true]
    exact wpAny_execs_nil ⟨σ1, H2, I2, q2⟩
end
structure It where
  go : Nat → Hp → Prop
  yld : Nat → Hp → V → Hp → Prop
  stop : Nat → Hp → Prop
def FpOk (X : Cx) (pins : List (Addr × Obj)) (H : Hp) (b : Addr) : Prop :=
  H b = none ∧ b ≠ X.env.locals ∧ b ∉ X.fs ∧ (b ∈ X.ex ∨ X.s₀.heap.objs.size ≤ b) ∧ (∀ x c, X.env.cells.lookup x = some c → c ≠ b) ∧ ∀ p ∈ X.pn ++ pins, p.1 ≠ b
theorem Inv.fpOk {X : Cx} {pins : List (Addr × Obj)} {σ : St} {H H' : Hp} {s : Shared} {b : Addr} (I : Inv X pins σ H s) (hb : s.heap.objs.size ≤ b) (hn : H' b = none) : FpOk X pins H' b := by
  refine ⟨hn, Nat.ne_of_gt (Nat.lt_of_lt_of_le I.lt hb), I.nofs hb, .inr (Nat.le_trans I.sz hb), fun x c e z => ?_, fun p hp z => ?_⟩
  · obtain ⟨v, q⟩ := I.cell x c e
    exact absurd (Nat.lt_of_lt_of_le q.lt (by rw [z]; exact hb)) (Nat.lt_irrefl _)
  · exact absurd (Nat.lt_of_lt_of_le (Heap.lt_size (I.pin p hp).1) (by rw [z]; exact hb)) (Nat.lt_irrefl _)
structure Turn (P : Program) (w : World) (K : PySem.W.Frag) (tg : Expr) (J : It) (fp : List Addr) (it : Addr) (tn : Nat → Heap → Prop) : Prop where
  mem : it ∈ fp
  obj : ∀ i h, tn i h → ∀ b ∈ fp, ∃ o, h.get? b = some o ∧ ∀ v, o.data ≠ .cell v
  keep : ∀ i h h', tn i h → (∀ b ∈ fp, ∀ o, h.get? b = some o → h'.get? b = some o) → tn i h'
  item : ∀ (X : Cx), X.prog = P → X.w = w → X.K = K → X.calm = true → ∀ (i : Nat) (pins : List (Addr × Obj)) (s : Shared) (σ : St) (H : Hp) (E : Value → Shared → Prop), Inv X pins σ H s → (∀ b ∈ fp, FpOk X pins H b) → tn i s.heap → J.go i H →
    wpAny (model P w) X.A (pyNext (.ref it)) (fun r s1 => ∃ u, r = some u ∧
      wpAny (model P w) X.A (letOwnedTupleGo tg (.ref it) u) (fun _ s2 => ∃ x H', Inv X pins σ H' s2 ∧ RelV x u ∧ J.yld i H x H' ∧ tn (i + 1) s2.heap ∧ ∀ b ∈ fp, H' b = none) E s1) E s
  done : ∀ (X : Cx), X.prog = P → X.w = w → X.K = K → X.calm = true → ∀ (i : Nat) (pins : List (Addr × Obj)) (s : Shared) (σ : St) (H : Hp) (E : Value → Shared → Prop), Inv X pins σ H s → (∀ b ∈ fp, FpOk X pins H b) → tn i s.heap → J.stop i H →
    wpAny (model P w) X.A (pyNext (.ref it)) (fun r s1 => r = none ∧ Inv X pins σ H s1) E s
  self : ∀ (A : Around) (i : Nat) (s : Shared) (Q : Value → Shared → Prop) (E : Value → Shared → Prop), tn i s.heap → Q (.ref it) s → wpAny (model P w) A (pyIter (.ref it)) Q E s
abbrev TI := St → Hp → (It → Hp → Prop) → Prop
def PIE (X : Cx) (pins : List (Addr × Obj)) (σ : St) (tg : Expr) (R : It → Hp → Prop) (itv : Value) (s2 : Shared) : Prop :=
  ∃ (it : Addr) (fp : List Addr) (tn : Nat → Heap → Prop) (J : It) (H' : Hp), itv = .ref it ∧ Inv X pins σ H' s2 ∧ Turn X.prog X.w X.K tg J fp it tn ∧ tn 0 s2.heap ∧ (∀ b ∈ fp, FpOk X pins H' b) ∧ R J H'
def PI (X : Cx) (tg iter : Expr) (wi : TI) : Prop :=
  ∀ (pins : List (Addr × Obj)) (s : Shared) (σ : St) (H : Hp) (R : It → Hp → Prop), Inv X pins σ H s → wi σ H R →
    wpAny (model X.prog X.w) X.A (eval iter X.env) (fun v s1 => wpAny (model X.prog X.w) X.A (pyIter v) (PIE X pins σ tg R) X.xe s1) X.xe s
theorem go_of {M : Model} {A : Around} {E : Value → Shared → Prop} {s : Shared} {tg : Expr} {it : Addr} {u : Value} {o : Obj} {n : String} {vs : Array Value} {Q : Unit → Shared → Prop} (ho : s.heap.get? it = some o) (hc : o.cls = .type n) (hd : o.data = .fields vs)
    (hn : ["enumerate", "zip", "dict_itemiterator", "dict_reverseitemiterator", "odict_iterator", "itertools.zip_longest", "itertools.pairwise"].contains n = false) (hQ : Q () s) : wpAny M A (letOwnedTupleGo tg (.ref it) u) Q E s := by
  unfold letOwnedTupleGo
  cases tg <;> first
    | exact wpAny_pure hQ
    | (cases u <;> first
        | exact wpAny_pure hQ
        | (refine wpAny_bind (wpAny_load ho ?_)
           rw [hc, hd]
           show wpAny M A (if (["enumerate", "zip", "dict_itemiterator", "dict_reverseitemiterator", "odict_iterator", "itertools.zip_longest", "itertools.pairwise"].contains n && vs[0]? == some (rawInt _)) = true then _ else _) Q E s
           rw [if_neg (by intro h; rw [hn, Bool.false_and] at h; cases h)]
           exact wpAny_pure hQ))
def Itl (K : PySem.W.Frag) (a : Addr) : It :=
  ⟨fun i H => ∃ xs x, SqL K H a xs ∧ xs[i]? = some x, fun i H x H' => H' = H ∧ ∀ xs, SqL K H a xs → xs[i]? = some x, fun i H => ∃ xs, SqL K H a xs ∧ xs.length ≤ i⟩
def Itt (K : PySem.W.Frag) (a : Addr) : It :=
  ⟨fun i H => ∃ xs x, SqT K H a xs ∧ xs[i]? = some x, fun i H x H' => H' = H ∧ ∀ xs, SqT K H a xs → xs[i]? = some x, fun i H => ∃ xs, SqT K H a xs ∧ xs.length ≤ i⟩
def Itr (lo : Int) (n : Nat) : It := ⟨fun i _ => i < n, fun i H x H' => H' = H ∧ x = .int (lo + i), fun i _ => n ≤ i⟩
theorem turn_list {P : Program} {w : World} {K : PySem.W.Frag} {tg : Expr} (a it : Addr) : Turn P w K tg (Itl K a) [it] it (fun i h => h.IsListIter it a i) where
  mem := by simp
  obj := fun i h st b hb => by
    have e : b = it := by simpa using hb
    subst e
    obtain ⟨o, e, c, d⟩ := st
    exact ⟨o, e, fun v z => by rw [d] at z; cases z⟩
  keep := fun i h h' st k => st.at fun o e => k it (by simp) o e
  item := by
    intro X hP hw hK hc i pins s σ H E I hf st hg
    subst hP hw hK
    obtain ⟨xs, x, hq, hx⟩ := hg
    obtain ⟨its, rv, p, hz⟩ := I.list hq
    obtain ⟨u, hu, ru⟩ := rv.get hx
    obtain ⟨f0, f1, f2, f3, f4, f5⟩ := hf it (by simp)
    refine wpAny_pyNext_list_item st p.isList (x := u) (by simpa using hu) fun h' st' sb => ?_
    have I1 : Inv X pins σ H { s with heap := h' } := I.turned (t' := s.toks) (fun b o hb e => (sb.2 b hb).trans e) f0 f1 f3 f4 f5
    obtain ⟨o, e, c, d⟩ := id st'
    exact ⟨u, rfl, go_of (s := { s with heap := h' }) e c d (by decide) ⟨x, H, I1, ru, ⟨rfl, fun ys hy => by rw [I.list_inj hy hq]; exact hx⟩, st', fun b hb => (hf b hb).1⟩⟩
  done := by
    intro X hP hw hK hc i pins s σ H E I hf st hg
    subst hP hw hK
    obtain ⟨xs, hq, hx⟩ := hg
    obtain ⟨its, rv, p, hz⟩ := I.list hq
    obtain ⟨f0, f1, f2, f3, f4, f5⟩ := hf it (by simp)
    have hl := rv.length
    exact wpAny_pyNext_list_end (I.ok.hd hc) st p.isList (by simp; omega) fun h' eb => ⟨rfl, I.turned (t' := s.toks) (fun b o hb e => eb b o hb e) f0 f1 f3 f4 f5⟩
  self := fun _ _ _ _ _ st h => wpAny_pyIter_listiter st h
theorem turn_tuple {P : Program} {w : World} {K : PySem.W.Frag} {tg : Expr} (a it : Addr) : Turn P w K tg (Itt K a) [it] it (fun i h => h.IsTupleIter it a i) where
  mem := by simp
  obj := fun i h st b hb => by
    have e : b = it := by simpa using hb
    subst e
    obtain ⟨o, e, c, d⟩ := st
    exact ⟨o, e, fun v z => by rw [d] at z; cases z⟩
  keep := fun i h h' st k => st.at fun o e => k it (by simp) o e
  item := by
    intro X hP hw hK hc i pins s σ H E I hf st hg
    subst hP hw hK
    obtain ⟨xs, x, hq, hx⟩ := hg
    obtain ⟨its, rv, p, hz⟩ := I.tuple hq
    obtain ⟨u, hu, ru⟩ := rv.get hx
    obtain ⟨f0, f1, f2, f3, f4, f5⟩ := hf it (by simp)
    refine wpAny_pyNext_tuple_item st (show s.heap.IsTuple a its.toArray from p) (x := u) (by simpa using hu) fun h' st' sb => ?_
    have I1 : Inv X pins σ H { s with heap := h' } := I.turned (t' := s.toks) (fun b o hb e => (sb.2 b hb).trans e) f0 f1 f3 f4 f5
    obtain ⟨o, e, c, d⟩ := id st'
    exact ⟨u, rfl, go_of (s := { s with heap := h' }) e c d (by decide) ⟨x, H, I1, ru, ⟨rfl, fun ys hy => by rw [I.tuple_inj hy hq]; exact hx⟩, st', fun b hb => (hf b hb).1⟩⟩
  done := by
    intro X hP hw hK hc i pins s σ H E I hf st hg
    subst hP hw hK
    obtain ⟨xs, hq, hx⟩ := hg
    obtain ⟨its, rv, p, hz⟩ := I.tuple hq
    obtain ⟨f0, f1, f2, f3, f4, f5⟩ := hf it (by simp)
    have hl := rv.length
    exact wpAny_pyNext_tuple_end (I.ok.hd hc) st (show s.heap.IsTuple a its.toArray from p) (by simp; omega) fun h' eb => ⟨rfl, I.turned (t' := s.toks) (fun b o hb e => eb b o hb e) f0 f1 f3 f4 f5⟩
  self := fun _ _ _ _ _ st h => wpAny_pyIter_tupleiter st h
theorem turn_range {P : Program} {w : World} {K : PySem.W.Frag} {tg : Expr} (it : Addr) (lo : Int) (n : Nat) : Turn P w K tg (Itr lo n) [it] it (fun i h => IsRangeIter h it (lo + (i : Nat) * 1) ((n : Int) - (i : Nat)) 1) where
  mem := by simp
  obj := fun i h st b hb => by
    have e : b = it := by simpa using hb
    subst e
    exact ⟨_, st, fun v z => by
      have z' : Data.fields _ = Data.cell v := z
      cases z'⟩
  keep := fun i h h' st k => k it (by simp) _ st
  item := by
    intro X hP hw hK hc i pins s σ H E I hf st hg
    subst hP hw hK
    obtain ⟨f0, f1, f2, f3, f4, f5⟩ := hf it (by simp)
    have W := Walks.range (prog := X.prog) (w := X.w) (I.ok.hd hc) it lo 1 n
    refine W.item i s _ _ hg st fun v h' tk hv st' kk => ?_
    obtain ⟨t, rfl⟩ := hv
    have I1 : Inv X pins σ H { s with heap := h', toks := tk } := I.turned (fun b o hb e => kk b o (by simpa using hb) e) f0 f1 f3 f4 f5
    refine ⟨_, rfl, go_of (s := { s with heap := h', toks := tk }) (n := "range_iterator") st' rfl rfl (by decide) ⟨.int (lo + i), H, I1, ⟨t, ?_⟩, ⟨rfl, rfl⟩, st', fun b hb => (hf b hb).1⟩⟩
    rw [Int.mul_one]
  done := by
    intro X hP hw hK hc i pins s σ H E I hf st hg
    subst hP hw hK
    obtain ⟨f0, f1, f2, f3, f4, f5⟩ := hf it (by simp)
    exact wpAny_pyNext_range_end (I.ok.hd hc) st (by have : n ≤ i := hg; omega) fun h' eb => ⟨rfl, I.turned (t' := s.toks) (fun b o hb e => eb b o hb e) f0 f1 f3 f4 f5⟩
  self := fun _ _ _ _ _ st h => wpAny_pyIter_rangeiter st h
section
variable {X : Cx} {tg : Expr}
def iList (K : PySem.W.Frag) (tl : TE) : TI := fun σ H R => tl σ H fun x H1 => ∃ a, x = .ref a ∧ (∃ xs, SqL K H1 a xs) ∧ R (Itl K a) H1
def iTup (K : PySem.W.Frag) (tl : TE) : TI := fun σ H R => tl σ H fun x H1 => ∃ a, x = .ref a ∧ (∃ xs, SqT K H1 a xs) ∧ R (Itt K a) H1
theorem pi_list {l : Expr} {tl : TE} (hl : PE X l tl) : PI X tg l (iList X.K tl) := by
  intro pins s σ H R I h
  refine thn (hl pins s σ H _ I h) fun v s1 ⟨x, H1, I1, r1, q1⟩ => ?_
  obtain ⟨a, e, ⟨xs, hq⟩, q⟩ := q1
  subst e
  cases r1
  obtain ⟨its, rv, p, hz⟩ := I1.list hq
  refine wpAny_pyIter_list p.isList ?_
  refine ⟨s1.heap.objs.size, [s1.heap.objs.size], _, _, H1, rfl, I1.kept (t' := s1.toks) fun b o e => Heap.get?_push_of_some _ e, turn_list a _, ⟨_, Heap.get?_push_size _ rfl, rfl, rfl⟩, fun b hb => ?_, q⟩
  have e : b = s1.heap.objs.size := by simpa using hb
  subst e
  exact I1.fpOk (Nat.le_refl _) (I1.hok.fresh (Nat.le_refl _))
theorem pi_tup {l : Expr} {tl : TE} (hl : PE X l tl) : PI X tg l (iTup X.K tl) := by
  intro pins s σ H R I h
  refine thn (hl pins s σ H _ I h) fun v s1 ⟨x, H1, I1, r1, q1⟩ => ?_
  obtain ⟨a, e, ⟨xs, hq⟩, q⟩ := q1
  subst e
  cases r1
  obtain ⟨its, rv, p, hz⟩ := I1.tuple hq
  refine wpAny_pyIter_tuple (show s1.heap.IsTuple a its.toArray from p) ?_
  refine ⟨s1.heap.objs.size, [s1.heap.objs.size], _, _, H1, rfl, I1.kept (t' := s1.toks) fun b o e => Heap.get?_push_of_some _ e, turn_tuple a _, ⟨_, Heap.get?_push_size _ rfl, rfl, rfl⟩, fun b hb => ?_, q⟩
  have e : b = s1.heap.objs.size := by simpa using hb
  subst e
  exact I1.fpOk (Nat.le_refl _) (I1.hok.fresh (Nat.le_refl _))
theorem range_it {pins : List (Addr × Obj)} {σ : St} {H : Hp} {s : Shared} {R : It → Hp → Prop} {E : Value → Shared → Prop} {lo hi : Int} {t u v : Tok} {tk : Nat} (I : Inv X pins σ H s) (h1 : -(2 ^ 62) ≤ lo) (h2 : lo < 2 ^ 62) (h3 : -(2 ^ 62) ≤ hi) (h4 : hi < 2 ^ 62)
    (q : R (Itr lo (hi - lo).toNat) H) : wpAny (model X.prog X.w) X.A (pyIter (.ref s.heap.objs.size)) (PIE X pins σ tg R) E { s with heap := s.heap.push { cls := .type "range", data := .fields #[.int lo t, .int hi u, .int 1 v] }, toks := tk } := by
  refine wpAny_pyIter_range (IsRange.new ..) (small_one h1 h2 h3 h4) ?_
  have I1 : Inv X pins σ H { s with heap := s.heap.push { cls := .type "range", data := .fields #[.int lo t, .int hi u, .int 1 v] }, toks := tk } := I.kept fun b o e => Heap.get?_push_of_some _ e
  refine ⟨(s.heap.push { cls := .type "range", data := .fields #[.int lo t, .int hi u, .int 1 v] }).objs.size, [(s.heap.push { cls := .type "range", data := .fields #[.int lo t, .int hi u, .int 1 v] }).objs.size], _, _, H, rfl,
    I1.kept (t' := tk) fun b o e => Heap.get?_push_of_some _ e, turn_range _ lo (hi - lo).toNat, ?_, fun b hb => ?_, q⟩
  · have e1 : lo + ((0 : Nat) : Int) * 1 = lo := by simp
    have e2 : (((hi - lo).toNat : Nat) : Int) - ((0 : Nat) : Int) = Builtin.Range.rangeSize lo hi 1 := by rw [rangeSize_one]; split <;> omega
    show IsRangeIter _ _ (lo + ((0 : Nat) : Int) * 1) ((((hi - lo).toNat : Nat) : Int) - ((0 : Nat) : Int)) 1
    rw [e1, e2]
    exact Heap.get?_push_size _ rfl
  · have e : b = (s.heap.push { cls := .type "range", data := .fields #[.int lo t, .int hi u, .int 1 v] }).objs.size := by simpa using hb
    subst e
    exact I1.fpOk (Nat.le_refl _) (I1.hok.fresh (Nat.le_refl _))
def iRng1 (ta : TA) : TI := fun σ H R => ta σ H fun vs H1 => ∃ j : Int, vs = [.int j] ∧ -(2 ^ 62) ≤ j ∧ j < 2 ^ 62 ∧ R (Itr 0 j.toNat) H1
theorem pi_range1 {a : Expr} {ta : TA} {p pos : Pos} (hg : Gl X "range") (hm : X.mg "range" = none) (ha : PA X [a] ta) (hs : starEach [a] X.env = [(false, eval a X.env)] := by rfl) : PI X tg (.Call (.Name "range" p) [a] [] pos) (iRng1 ta) := by
  intro pins s σ H R I h
  refine Call_ (ld_blt I hg hm boot_range (PyProof.Rows.callWith_type1 (thn (ha pos pins s σ H _ I h) fun us s1 ⟨vs, H1, I1, r1, q1⟩ => ?_) hs rfl))
  obtain ⟨j, e, q1, q2, q⟩ := q1
  subst e
  cases r1 with
  | cons r rr =>
    cases rr
    obtain ⟨t, rfl⟩ := r
    exact call_range_1 (range_it I1 (by omega) (by omega) q1 q2 (by simpa using q))
def tFor (wi : TI) (g : TG) (tb : TS) : TS := fun D σ H => wi σ H fun J H1 => ∃ W : Nat → Nat → St → Hp → Prop, (∃ m, W 0 m σ H1) ∧ ∀ i m σ H, W i m σ H →
  (J.stop i H ∧ D.nx σ H) ∨ (J.go i H ∧ ∃ N : St → Hp → Prop, (∀ σ' H', N σ' H' → ∃ m', m' < m ∧ W (i + 1) m' σ' H') ∧ ∀ x H', J.yld i H x H' → g x σ H' fun σ2 H2 => tb { D with nx := N, ct := N, bk := D.nx } σ2 H2)
def pinsAt (fp : List Addr) (h : Heap) : List (Addr × Obj) := fp.filterMap fun b => (h.get? b).map fun o => (b, o)
theorem mem_pinsAt {fp : List Addr} {h : Heap} {b : Addr} {o : Obj} (hb : b ∈ fp) (e : h.get? b = some o) : (b, o) ∈ pinsAt fp h := List.mem_filterMap.mpr ⟨b, hb, by rw [e]; rfl⟩
theorem of_pinsAt {fp : List Addr} {h : Heap} {p : Addr × Obj} (hp : p ∈ pinsAt fp h) : p.1 ∈ fp ∧ h.get? p.1 = some p.2 := by
  obtain ⟨b, hb, e⟩ := List.mem_filterMap.mp hp
  cases q : h.get? b with
  | none => rw [q] at e; cases e
  | some o =>
    rw [q] at e
    have e' : (b, o) = p := Option.some.inj e
    subst e'
    exact ⟨hb, q⟩
theorem Inv.pinned {pins : List (Addr × Obj)} {σ : St} {H : Hp} {s : Shared} {fp : List Addr} (I : Inv X pins σ H s) (hf : ∀ b ∈ fp, FpOk X pins H b) (ho : ∀ b ∈ fp, ∃ o, s.heap.get? b = some o ∧ ∀ v, o.data ≠ .cell v) : Inv X (pins ++ pinsAt fp s.heap) σ H s :=
  I.pins_of fun p hp => (List.mem_append.mp hp).elim (fun z => I.pin p (List.mem_append_right _ z)) fun z => by
    obtain ⟨hb, e⟩ := of_pinsAt z
    obtain ⟨f0, f1, f2, _⟩ := hf p.1 hb
    obtain ⟨o, e', d⟩ := ho p.1 hb
    rw [e] at e'; cases e'
    exact ⟨e, f0, f1, f2, d⟩
theorem Inv.unpinned {pins pl : List (Addr × Obj)} {σ : St} {H : Hp} {s : Shared} (I : Inv X (pins ++ pl) σ H s) : Inv X pins σ H s := I.pins_of fun p hp => I.pin p (List.mem_append_right _ (List.mem_append_left _ hp))
theorem ps_for {iter : Expr} {body : List Stmt} {wi : TI} {g : TG} {tb : TS} {pos : Pos} (hp : PassesOwn (model X.prog X.w) X.A X.env X.xe) (hc : X.calm = true) (hi : PI X tg iter wi) (hg : PG X tg g) (hb : PSs X body tb)
    (hs : ∀ x, foldedSetIterable iter X.env x = pure x := by intro _; rfl) : PS X (.For tg iter body [] pos) (tFor wi g tb) := by
  intro pins s σ H D I h
  refine wpAny_For (thn (hi pins s σ H _ I h) fun v s1 h1 => thn h1 fun itv s2 h2 => ?_) hs
  obtain ⟨it, fp, tn, J, H2, e, I2, T, st2, f2, W, ⟨m0, w0⟩, turn⟩ := h2
  subst e
  -- what stays true of the iterator's objects through the loop
  have stat : ∀ {H' : Hp}, (∀ b ∈ fp, H' b = none) → ∀ b ∈ fp, FpOk X pins H' b := fun hn b hb => ⟨hn b hb, (f2 b hb).2⟩
  refine codeAny_forLoop_any (fun n s' => ∃ i σ' H', Inv X pins σ' H' s' ∧ tn i s'.heap ∧ (∀ b ∈ fp, H' b = none) ∧ W i n σ' H') ?_ m0 ⟨0, σ, H2, I2, st2, fun b hb => (f2 b hb).1, w0⟩
  rintro n s3 ⟨i, σ3, H3, I3, st3, fr3, w3⟩
  rcases turn i n σ3 H3 w3 with ⟨stop, qn⟩ | ⟨go, N, hN, step⟩
  · refine wpAny_passesOwn hp (thn (T.done X rfl rfl rfl hc i pins s3 σ3 H3 X.xe I3 (stat fr3) st3 stop) fun r s4 ⟨hr, I4⟩ => ?_)
    subst hr
    exact wpAny_execs_nil ⟨σ3, H3, I4, qn⟩
  · refine wpAny_passesOwn hp (thn (T.item X rfl rfl rfl hc i pins s3 σ3 H3 X.xe I3 (stat fr3) st3 go) fun r s4 ⟨u, hr, h4⟩ => ?_)
    subst hr
    refine wpAny_passesOwn hp (thn h4 fun _ s5 ⟨x, H5, I5, r5, y5, st5, fr5⟩ => ?_)
    have I5' := I5.pinned (stat fr5) (T.obj _ _ st5)
    refine wpAny_passesOwn hp (thn (hg _ s5 σ3 H5 x u _ I5' r5 (step x H5 y5)) fun _ s6 ⟨σ6, H6, I6, q6⟩ => ?_)
    refine wpAny_passesOwn hp (thn (hb _ s6 σ6 H6 _ I6 q6) fun f s7 q7 => ?_)
    have again : ∀ {σ7 : St} {H7 : Hp}, Inv X (pins ++ pinsAt fp s5.heap) σ7 H7 s7 → N σ7 H7 → ∃ m, m < n ∧ ∃ i σ' H', Inv X pins σ' H' s7 ∧ tn i s7.heap ∧ (∀ b ∈ fp, H' b = none) ∧ W i m σ' H' := fun {σ7 H7} I7 n7 => by
      obtain ⟨m', hm, w7⟩ := hN σ7 H7 n7
      refine ⟨m', hm, i + 1, σ7, H7, I7.unpinned, T.keep _ _ _ st5 fun b hb o e => (I7.pin (b, o) (List.mem_append_right _ (List.mem_append_right _ (mem_pinsAt hb e)))).1, fun b hb => ?_, w7⟩
      obtain ⟨o, e, d⟩ := T.obj _ _ st5 b hb
      exact (I7.pin (b, o) (List.mem_append_right _ (List.mem_append_right _ (mem_pinsAt hb e)))).2.1
    cases f with
    | next => obtain ⟨σ7, H7, I7, n7⟩ := q7; exact again I7 n7
    | cont => obtain ⟨σ7, H7, I7, n7⟩ := q7; exact again I7 n7
    | brk => obtain ⟨σ7, H7, I7, q7⟩ := q7; exact ⟨σ7, H7, I7.unpinned, q7⟩
    | ret v => obtain ⟨x7, σ7, H7, I7, r7, q7⟩ := q7; exact ⟨x7, σ7, H7, I7.unpinned, r7, q7⟩
end
theorem for_list {K : PySem.W.Frag} {a : Addr} {xs : List V} {g : TG} {tb : TS} {D : Ends} {σ : St} {H : Hp} (Pv : Nat → St → Hp → Prop) (h0 : Pv 0 σ H) (hl : ∀ i σ H, i ≤ xs.length → Pv i σ H → SqL K H a xs)
    (hs : ∀ i x σ H, xs[i]? = some x → Pv i σ H → g x σ H fun σ2 H2 => tb { D with nx := Pv (i + 1), ct := Pv (i + 1), bk := D.nx } σ2 H2) (hd : ∀ σ H, Pv xs.length σ H → D.nx σ H) :
    ∃ W : Nat → Nat → St → Hp → Prop, (∃ m, W 0 m σ H) ∧ ∀ i m σ H, W i m σ H →
      ((Itl K a).stop i H ∧ D.nx σ H) ∨ ((Itl K a).go i H ∧ ∃ N : St → Hp → Prop, (∀ σ' H', N σ' H' → ∃ m', m' < m ∧ W (i + 1) m' σ' H') ∧ ∀ x H', (Itl K a).yld i H x H' → g x σ H' fun σ2 H2 => tb { D with nx := N, ct := N, bk := D.nx } σ2 H2) := by
  refine ⟨fun i m σ H => m = xs.length - i ∧ i ≤ xs.length ∧ Pv i σ H, ⟨xs.length, by simp, Nat.zero_le _, h0⟩, ?_⟩
  rintro i m σ H ⟨rfl, hi, p⟩
  have q := hl i σ H hi p
  by_cases hlt : i < xs.length
  · refine .inr ⟨⟨xs, xs[i], q, by simp [hlt]⟩, Pv (i + 1), fun σ' H' p' => ⟨xs.length - (i + 1), by omega, rfl, hlt, p'⟩, fun x H' y => ?_⟩
    obtain ⟨e, y⟩ := y
    subst e
    exact hs i x σ _ (y xs q) p
  · have e : i = xs.length := by omega
    subst e
    exact .inl ⟨⟨xs, q, Nat.le_refl _⟩, hd σ H p⟩
theorem for_tup {K : PySem.W.Frag} {a : Addr} {xs : List V} {g : TG} {tb : TS} {D : Ends} {σ : St} {H : Hp} (Pv : Nat → St → Hp → Prop) (h0 : Pv 0 σ H) (hl : ∀ i σ H, i ≤ xs.length → Pv i σ H → SqT K H a xs)
    (hs : ∀ i x σ H, xs[i]? = some x → Pv i σ H → g x σ H fun σ2 H2 => tb { D with nx := Pv (i + 1), ct := Pv (i + 1), bk := D.nx } σ2 H2) (hd : ∀ σ H, Pv xs.length σ H → D.nx σ H) :
    ∃ W : Nat → Nat → St → Hp → Prop, (∃ m, W 0 m σ H) ∧ ∀ i m σ H, W i m σ H →
      ((Itt K a).stop i H ∧ D.nx σ H) ∨ ((Itt K a).go i H ∧ ∃ N : St → Hp → Prop, (∀ σ' H', N σ' H' → ∃ m', m' < m ∧ W (i + 1) m' σ' H') ∧ ∀ x H', (Itt K a).yld i H x H' → g x σ H' fun σ2 H2 => tb { D with nx := N, ct := N, bk := D.nx } σ2 H2) := by
  refine ⟨fun i m σ H => m = xs.length - i ∧ i ≤ xs.length ∧ Pv i σ H, ⟨xs.length, by simp, Nat.zero_le _, h0⟩, ?_⟩
  rintro i m σ H ⟨rfl, hi, p⟩
  have q := hl i σ H hi p
  by_cases hlt : i < xs.length
  · refine .inr ⟨⟨xs, xs[i], q, by simp [hlt]⟩, Pv (i + 1), fun σ' H' p' => ⟨xs.length - (i + 1), by omega, rfl, hlt, p'⟩, fun x H' y => ?_⟩
    obtain ⟨e, y⟩ := y
    subst e
    exact hs i x σ _ (y xs q) p
  · have e : i = xs.length := by omega
    subst e
    exact .inl ⟨⟨xs, q, Nat.le_refl _⟩, hd σ H p⟩
theorem for_range {lo : Int} {n : Nat} {g : TG} {tb : TS} {D : Ends} {σ : St} {H : Hp} (Pv : Nat → St → Hp → Prop) (h0 : Pv 0 σ H)
    (hs : ∀ i σ H, i < n → Pv i σ H → g (.int (lo + i)) σ H fun σ2 H2 => tb { D with nx := Pv (i + 1), ct := Pv (i + 1), bk := D.nx } σ2 H2) (hd : ∀ σ H, Pv n σ H → D.nx σ H) :
    ∃ W : Nat → Nat → St → Hp → Prop, (∃ m, W 0 m σ H) ∧ ∀ i m σ H, W i m σ H →
      ((Itr lo n).stop i H ∧ D.nx σ H) ∨ ((Itr lo n).go i H ∧ ∃ N : St → Hp → Prop, (∀ σ' H', N σ' H' → ∃ m', m' < m ∧ W (i + 1) m' σ' H') ∧ ∀ x H', (Itr lo n).yld i H x H' → g x σ H' fun σ2 H2 => tb { D with nx := N, ct := N, bk := D.nx } σ2 H2) := by
  refine ⟨fun i m σ H => m = n - i ∧ i ≤ n ∧ Pv i σ H, ⟨n, by simp, Nat.zero_le _, h0⟩, ?_⟩
  rintro i m σ H ⟨rfl, hi, p⟩
  by_cases hlt : i < n
  · refine .inr ⟨hlt, Pv (i + 1), fun σ' H' p' => ⟨n - (i + 1), by omega, rfl, hlt, p'⟩, fun x H' y => ?_⟩
    obtain ⟨e, y⟩ := y
    subst e y
    exact hs i σ _ hlt p
  · have e : i = n := by omega
    subst e
    exact .inl ⟨Nat.le_refl _, hd σ H p⟩
abbrev R2 := V → V → Hp → VK → Prop
def OpR (X : Cx) (f : Value → Value → Sem Value) (r : R2) : Prop :=
  ∀ (pins : List (Addr × Obj)) (s : Shared) (σ : St) (H : Hp) (x y : V) (v u : Value) (Q : VK), Inv X pins σ H s → RelV x v → RelV y u → r x y H Q →
    wpAny (model X.prog X.w) X.A (f v u) (EP X pins σ Q) X.xe s
def UnR (X : Cx) (f : Value → Sem Value) (r : V → Hp → VK → Prop) : Prop :=
  ∀ (pins : List (Addr × Obj)) (s : Shared) (σ : St) (H : Hp) (x : V) (v : Value) (Q : VK), Inv X pins σ H s → RelV x v → r x H Q →
    wpAny (model X.prog X.w) X.A (f v) (EP X pins σ Q) X.xe s
def CallR (X : Cx) (f : Value) (r : List V → Hp → VK → Prop) : Prop :=
  ∀ (pins : List (Addr × Obj)) (s : Shared) (σ : St) (H : Hp) (xs : List V) (us : List Value) (Q : VK), Inv X pins σ H s → Vals xs us → r xs H Q →
    wpAny (model X.prog X.w) X.A (call f us) (EP X pins σ Q) X.xe s
def tOp (r : R2) (ta tb : TE) : TE := fun σ H Q => ta σ H fun x H1 => tb σ H1 fun y H2 => r x y H2 Q
def tUn (r : V → Hp → VK → Prop) (ta : TE) : TE := fun σ H Q => ta σ H fun x H1 => r x H1 Q
def rI (C : Int → Int → Prop) (g : Int → Int → V) : R2 := fun x y H Q => ∃ i j, x = .int i ∧ y = .int j ∧ C i j ∧ Q (g i j) H
def rI0 (g : Int → Int → V) : R2 := fun x y H Q => ∃ i j, x = .int i ∧ y = .int j ∧ Q (g i j) H
def rU (g : Int → V) : V → Hp → VK → Prop := fun x H Q => ∃ i, x = .int i ∧ Q (g i) H
section
variable {X : Cx} {a b c : Expr} {ta tb tc : TE} {pos : Pos}
theorem binT (ha : PE X a ta) (hb : PE X b tb) {pins : List (Addr × Obj)} {s : Shared} {σ : St} {H : Hp} {R : V → V → Hp → Prop} (I : Inv X pins σ H s)
    (h : ta σ H fun x H1 => tb σ H1 fun y H2 => R x y H2) {Q : Value → Shared → Prop} {f : Value → Value → Sem Value}
    (hf : ∀ v u s2 x y H2, Inv X pins σ H2 s2 → RelV x v → RelV y u → R x y H2 → wpAny (model X.prog X.w) X.A (f v u) Q X.xe s2) :
    wpAny (model X.prog X.w) X.A (eval a X.env) (fun v s₁ => wpAny (model X.prog X.w) X.A (eval b X.env) (fun u s₂ => wpAny (model X.prog X.w) X.A (f v u) Q X.xe s₂) X.xe s₁) X.xe s := by
  refine thn (ha pins s σ H _ I h) fun v s1 ⟨x, H1, I1, r1, q1⟩ => ?_
  refine thn (hb pins s1 σ H1 _ I1 q1) fun u s2 ⟨y, H2, I2, r2, q2⟩ => ?_
  exact hf v u s2 x y H2 I2 r1 r2 q2
theorem pe_op {op : Operator} {r : R2} (ho : OpR X (binaryOp op) r) (ha : PE X a ta) (hb : PE X b tb) : PE X (.BinOp a op b pos) (tOp r ta tb) := by
  intro pins s σ H Q I h
  exact wpAny_BinOp (binT ha hb I h fun v u s2 x y H2 I2 rx ry q => ho pins s2 σ H2 x y v u Q I2 rx ry q)
theorem pe_un {op : UnaryOp} {r : V → Hp → VK → Prop} (ho : UnR X (unaryOp op) r) (ha : PE X a ta) : PE X (.UnaryOp op a pos) (tUn r ta) := by
  intro pins s σ H Q I h
  exact UnaryOp_ (thn (ha pins s σ H _ I h) fun v s1 ⟨x, H1, I1, r1, q1⟩ => ho pins s1 σ H1 x v Q I1 r1 q1)
theorem opI {f : Value → Value → Sem Value} {C : Int → Int → Prop} {g : Int → Int → Int}
    (rule : ∀ (i j : Int) (t u : Tok) (s : Shared) (Q : Value → Shared → Prop) (E : Value → Shared → Prop), C i j → Q (.int (g i j) s.toks) { s with toks := s.toks + 1 } → wpAny (model X.prog X.w) X.A (f (.int i t) (.int j u)) Q E s) :
    OpR X f (rI C fun i j => .int (g i j)) := by
  intro pins s σ H x y v u Q I rx ry h
  obtain ⟨i, j, rfl, rfl, hc, q⟩ := h
  obtain ⟨t, rfl⟩ := rx
  obtain ⟨t', rfl⟩ := ry
  exact rule i j t t' s _ _ hc ⟨.int (g i j), H, I.tok _, ⟨_, rfl⟩, q⟩
theorem opI0 {f : Value → Value → Sem Value} {g : Int → Int → Int}
    (rule : ∀ (i j : Int) (t u : Tok) (s : Shared) (Q : Value → Shared → Prop) (E : Value → Shared → Prop), Q (.int (g i j) s.toks) { s with toks := s.toks + 1 } → wpAny (model X.prog X.w) X.A (f (.int i t) (.int j u)) Q E s) :
    OpR X f (rI0 fun i j => .int (g i j)) := by
  intro pins s σ H x y v u Q I rx ry h
  obtain ⟨i, j, rfl, rfl, q⟩ := h
  obtain ⟨t, rfl⟩ := rx
  obtain ⟨t', rfl⟩ := ry
  exact rule i j t t' s _ _ ⟨.int (g i j), H, I.tok _, ⟨_, rfl⟩, q⟩
theorem opB0 {f : Value → Value → Sem Value} {g : Int → Int → Bool}
    (rule : ∀ (i j : Int) (t u : Tok) (s : Shared) (Q : Value → Shared → Prop) (E : Value → Shared → Prop), Q (.bool (g i j)) s → wpAny (model X.prog X.w) X.A (f (.int i t) (.int j u)) Q E s) :
    OpR X f (rI0 fun i j => .bl (g i j)) := by
  intro pins s σ H x y v u Q I rx ry h
  obtain ⟨i, j, rfl, rfl, q⟩ := h
  obtain ⟨t, rfl⟩ := rx
  obtain ⟨t', rfl⟩ := ry
  exact rule i j t t' s _ _ ⟨.bl (g i j), H, I, rfl, q⟩
def CDiv (i j : Int) : Prop := 0 < j ∧ j < 1073741824
def CPow (i j : Int) : Prop := 0 ≤ j ∧ j ≤ 1000000 ∧ i.natAbs < 2 ^ 64
def CMul (i j : Int) : Prop := (-(2 ^ 64) < i ∧ i < 2 ^ 64) ∨ (-(2 ^ 64) < j ∧ j < 2 ^ 64)
theorem CMul.ok {i j : Int} (h : CMul i j) : IntMulOk i j := by
  rcases h with ⟨h1, h2⟩ | ⟨h1, h2⟩
  · exact .of_left (intBits_le_64 h1 h2)
  · exact .of_right (intBits_le_64 h1 h2)
theorem op_add : OpR X (binaryOp .Add) (rI0 fun i j => .int (i + j)) := opI0 fun _ _ _ _ _ _ _ q => add_int q
theorem op_sub : OpR X (binaryOp .Sub) (rI0 fun i j => .int (i - j)) := opI0 fun _ _ _ _ _ _ _ q => sub_int q
theorem op_mul : OpR X (binaryOp .Mult) (rI CMul fun i j => .int (i * j)) := opI fun _ _ _ _ _ _ _ hc q => mul_int q hc.ok
theorem op_fdiv : OpR X (binaryOp .FloorDiv) (rI CDiv fun i j => .int (i / j)) := opI fun i j _ _ _ _ _ hc q => by
  have h1 : (0 : Int) < j := hc.1
  have h2 : j < 1073741824 := hc.2
  exact floordiv_int (by omega) (by rw [Int.fdiv_eq_ediv_of_nonneg i (by omega)]; exact q) (.inl (PyProof.noPylong_small (by omega)))
theorem op_mod : OpR X (binaryOp .Mod) (rI (fun _ j => 0 < j) fun i j => .int (i % j)) := opI fun i j _ _ _ _ _ hc q => by
  have h1 : (0 : Int) < j := hc
  exact mod_int' (by omega) (by rw [Int.fmod_eq_emod_of_nonneg i (by omega)]; exact q)
theorem op_pow : OpR X (binaryOp .Pow) (rI CPow fun i j => .int (i ^ j.toNat)) := opI fun _ _ _ _ _ _ _ hc q => pow_int_small hc.1 hc.2.1 hc.2.2 q
theorem unI {f : Value → Sem Value} {g : Int → Int}
    (rule : ∀ (i : Int) (t : Tok) (s : Shared) (Q : Value → Shared → Prop) (E : Value → Shared → Prop), Q (.int (g i) s.toks) { s with toks := s.toks + 1 } → wpAny (model X.prog X.w) X.A (f (.int i t)) Q E s) :
    UnR X f (rU fun i => .int (g i)) := by
  intro pins s σ H x v Q I rx h
  obtain ⟨i, rfl, q⟩ := h
  obtain ⟨t, rfl⟩ := rx
  exact rule i t s _ _ ⟨.int (g i), H, I.tok _, ⟨_, rfl⟩, q⟩
theorem un_neg : UnR X (unaryOp .USub) (rU fun i => .int (-i)) := unI fun _ _ _ _ _ q => neg_int q
end
def scal : V → V → Bool
  | .non, .non => true | .non, .int _ => true | .int _, .non => true | .non, .bl _ => true | .bl _, .non => true | .non, .str _ => true | .str _, .non => true
  | .int _, .int _ => true | .bl _, .bl _ => true | .str _, .str _ => true | .byt _, .byt _ => true
  | .int _, .str _ => true | .str _, .int _ => true | .bl _, .str _ => true | .str _, .bl _ => true
  | _, _ => false
def rEq : R2 := fun x y H Q => scal x y = true ∧ Q (.bl (decide (x = y))) H
def rNe : R2 := fun x y H Q => scal x y = true ∧ Q (.bl (!decide (x = y))) H
theorem dec_int {i j : Int} : decide (V.int i = V.int j) = (i == j) := by
  rw [Bool.eq_iff_iff]
  simp
theorem dec_bl {i j : Bool} : decide (V.bl i = V.bl j) = (i == j) := by
  rw [Bool.eq_iff_iff]
  simp
theorem dec_str {i j : Str} : decide (V.str i = V.str j) = (i == j) := by
  rw [Bool.eq_iff_iff]
  simp
theorem dec_byt {i j : Array UInt8} : decide (V.byt i = V.byt j) = (i.toList == j.toList) := by
  rw [Bool.eq_iff_iff]
  cases i
  cases j
  simp
section
variable {X : Cx} {a b c : Expr} {ta tb tc : TE} {pos : Pos}
theorem fin_bl {pins : List (Addr × Obj)} {σ : St} {H : Hp} {s : Shared} {Q : VK} {k k' : Bool} (I : Inv X pins σ H s) (q : Q (.bl k) H) (e : k = k') : EP X pins σ Q (.bool k') s := by
  subst e
  exact ⟨.bl k, H, I, rfl, q⟩
theorem op_eq : OpR X (compareOp .Eq) rEq := by
  intro pins s σ H x y v u Q I rx ry h
  obtain ⟨hs, q⟩ := h
  cases x with
  | non =>
    cases rx
    cases y with
    | non => cases ry; exact PySem.EqNone.eq_none_none (fin_bl I q (by simp))
    | bl j => cases ry; exact PySem.EqNone.eq_none_bool (fin_bl I q (by simp))
    | int j => obtain ⟨t', rfl⟩ := ry; exact PySem.EqNone.eq_none_int (fin_bl I q (by simp))
    | str j => obtain ⟨t', rfl⟩ := ry; exact PySem.EqNone.eq_none_str (fin_bl I q (by simp))
    | _ => exact absurd (show false = true from hs) Bool.false_ne_true
  | bl i =>
    cases rx
    cases y with
    | non => cases ry; exact PySem.EqNone.eq_bool_none (fin_bl I q (by simp))
    | bl j => cases ry; exact eq_bool (fin_bl I q dec_bl)
    | str j => obtain ⟨t', rfl⟩ := ry; exact PySem.EqMixed.eq_bool_str (fin_bl I q (by simp))
    | _ => exact absurd (show false = true from hs) Bool.false_ne_true
  | int i =>
    obtain ⟨t, rfl⟩ := rx
    cases y with
    | non => cases ry; exact PySem.EqNone.eq_int_none (fin_bl I q (by simp))
    | int j => obtain ⟨t', rfl⟩ := ry; exact eq_int (fin_bl I q dec_int)
    | str j => obtain ⟨t', rfl⟩ := ry; exact PySem.EqMixed.eq_int_str (fin_bl I q (by simp))
    | _ => exact absurd (show false = true from hs) Bool.false_ne_true
  | str i =>
    obtain ⟨t, rfl⟩ := rx
    cases y with
    | non => cases ry; exact PySem.EqNone.eq_str_none (fin_bl I q (by simp))
    | bl j => cases ry; exact PySem.EqMixed.eq_str_bool (fin_bl I q (by simp))
    | int j => obtain ⟨t', rfl⟩ := ry; exact PySem.EqMixed.eq_str_int (fin_bl I q (by simp))
    | str j => obtain ⟨t', rfl⟩ := ry; exact eq_str (fin_bl I q dec_str)
    | _ => exact absurd (show false = true from hs) Bool.false_ne_true
  | byt i =>
    obtain ⟨t, rfl⟩ := rx
    cases y with
    | byt j => obtain ⟨t', rfl⟩ := ry; exact PySem.W.eq_bytes (fin_bl I q dec_byt)
    | _ => exact absurd (show false = true from hs) Bool.false_ne_true
  | _ => cases y <;> exact absurd (show false = true from hs) Bool.false_ne_true
theorem op_ne : OpR X (compareOp .NotEq) rNe := by
  intro pins s σ H x y v u Q I rx ry h
  obtain ⟨hs, q⟩ := h
  cases x with
  | non =>
    cases rx
    cases y with
    | non => cases ry; exact PySem.EqNone.ne_none_none (fin_bl I q (by simp))
    | bl j => cases ry; exact PySem.EqNone.ne_none_bool (fin_bl I q (by simp))
    | int j => obtain ⟨t', rfl⟩ := ry; exact PySem.EqNone.ne_none_int (fin_bl I q (by simp))
    | str j => obtain ⟨t', rfl⟩ := ry; exact PySem.EqNone.ne_none_str (fin_bl I q (by simp))
    | _ => exact absurd (show false = true from hs) Bool.false_ne_true
  | bl i =>
    cases rx
    cases y with
    | non => cases ry; exact PySem.EqNone.ne_bool_none (fin_bl I q (by simp))
    | bl j => cases ry; exact ne_bool (fin_bl I q (congrArg not dec_bl))
    | str j => obtain ⟨t', rfl⟩ := ry; exact PySem.EqMixed.ne_bool_str (fin_bl I q (by simp))
    | _ => exact absurd (show false = true from hs) Bool.false_ne_true
  | int i =>
    obtain ⟨t, rfl⟩ := rx
    cases y with
    | non => cases ry; exact PySem.EqNone.ne_int_none (fin_bl I q (by simp))
    | int j => obtain ⟨t', rfl⟩ := ry; exact ne_int (fin_bl I q (congrArg not dec_int))
    | str j => obtain ⟨t', rfl⟩ := ry; exact PySem.EqMixed.ne_int_str (fin_bl I q (by simp))
    | _ => exact absurd (show false = true from hs) Bool.false_ne_true
  | str i =>
    obtain ⟨t, rfl⟩ := rx
    cases y with
    | non => cases ry; exact PySem.EqNone.ne_str_none (fin_bl I q (by simp))
    | bl j => cases ry; exact PySem.EqMixed.ne_str_bool (fin_bl I q (by simp))
    | int j => obtain ⟨t', rfl⟩ := ry; exact PySem.EqMixed.ne_str_int (fin_bl I q (by simp))
    | str j => obtain ⟨t', rfl⟩ := ry; exact ne_str (fin_bl I q (congrArg not dec_str))
    | _ => exact absurd (show false = true from hs) Bool.false_ne_true
  | byt i =>
    obtain ⟨t, rfl⟩ := rx
    cases y with
    | byt j => obtain ⟨t', rfl⟩ := ry; exact PySem.W.ne_bytes (fin_bl I q (congrArg not dec_byt))
    | _ => exact absurd (show false = true from hs) Bool.false_ne_true
  | _ => cases y <;> exact absurd (show false = true from hs) Bool.false_ne_true
theorem op_lt : OpR X (compareOp .Lt) (rI0 fun i j => .bl (decide (i < j))) := opB0 fun _ _ _ _ _ _ _ q => lt_int q
theorem op_le : OpR X (compareOp .LtE) (rI0 fun i j => .bl (decide (i ≤ j))) := opB0 fun _ _ _ _ _ _ _ q => le_int q
theorem op_gt : OpR X (compareOp .Gt) (rI0 fun i j => .bl (decide (j < i))) := opB0 fun _ _ _ _ _ _ _ q => gt_int q
theorem op_ge : OpR X (compareOp .GtE) (rI0 fun i j => .bl (decide (j ≤ i))) := opB0 fun _ _ _ _ _ _ _ q => ge_int q
theorem op_isN : OpR X (compareOp .Is) (fun x y H Q => y = .non ∧ Q (.bl (decide (x = .non))) H) := by
  intro pins s σ H x y v u Q I rx ry h
  obtain ⟨rfl, q⟩ := h
  cases ry
  refine is_none_gen (fin_bl I q ?_)
  cases x <;> first
    | (cases rx; rfl)
    | (obtain ⟨t, rfl⟩ := rx; rfl)
theorem op_notN : OpR X (compareOp .IsNot) (fun x y H Q => y = .non ∧ Q (.bl (!decide (x = .non))) H) := by
  intro pins s σ H x y v u Q I rx ry h
  obtain ⟨rfl, q⟩ := h
  cases ry
  refine isnot_none_gen (fin_bl I q ?_)
  cases x <;> first
    | (cases rx; rfl)
    | (obtain ⟨t, rfl⟩ := rx; rfl)
theorem OpR.or {f : Value → Value → Sem Value} {r r' : R2} (h : OpR X f r) (h' : OpR X f r') : OpR X f (fun x y H Q => r x y H Q ∨ r' x y H Q) := by
  intro pins s σ H x y v u Q I rx ry q
  rcases q with q | q
  · exact h pins s σ H x y v u Q I rx ry q
  · exact h' pins s σ H x y v u Q I rx ry q
theorem nomark (b : Expr) {op : CmpOp} (h : op ≠ .In := by decide) (h2 : op ≠ .NotIn := by decide) : behindInMarks op b = false := by
  have e1 : (op == CmpOp.In) = false := by cases op <;> first | rfl | exact absurd rfl h
  have e2 : (op == CmpOp.NotIn) = false := by cases op <;> first | rfl | exact absurd rfl h2
  cases b <;> simp [behindInMarks, e1, e2]
theorem pe_cmpR {op : CmpOp} {r : R2} (ho : OpR X (compareOp op) r) (ha : PE X a ta) (hb : PE X b tb) (hm : behindInMarks op b = false) : PE X (.Compare a [op] [b] pos) (tOp r ta tb) := by
  intro pins s σ H Q I h
  exact wpAny_Compare1 (binT ha hb I h fun v u s2 x y H2 I2 rx ry q => ho pins s2 σ H2 x y v u Q I2 rx ry q) hm
def tTest (t : TE) : TT := fun σ H Q => t σ H fun x H' => ∃ k, x = .bl k ∧ Q k H'
theorem pt_cmpR {op : CmpOp} {r : R2} (ho : OpR X (compareOp op) r) (ha : PE X a ta) (hb : PE X b tb) (hm : behindInMarks op b = false) : PT X (.Compare a [op] [b] pos) (tTest (tOp r ta tb)) := by
  intro pins s σ H Q I h
  refine wpAny_isTrue_Compare1 (thn (ha pins s σ H _ I h) fun v s1 ⟨x, H1, I1, r1, q1⟩ => thn (hb pins s1 σ H1 _ I1 q1) fun u s2 ⟨y, H2, I2, r2, q2⟩ =>
    thn (ho pins s2 σ H2 x y v u _ I2 r1 r2 q2) fun c s3 ⟨z, H3, I3, r3, k, e, q3⟩ => ?_) hm
  subst e
  cases r3
  exact wpAny_truthy_bool ⟨H3, I3, q3⟩
def tChain (r r' : R2) (ta tb tc : TE) : TE := fun σ H Q => ta σ H fun x H1 => tb σ H1 fun y H2 => r x y H2 fun z H3 => ∃ k, z = .bl k ∧
  (if k = true then tc σ H3 fun w' H4 => r' y w' H4 Q else Q (.bl false) H3)
theorem pe_chain {op op' : CmpOp} {r r' : R2} (ho : OpR X (compareOp op) r) (ho' : OpR X (compareOp op') r') (ha : PE X a ta) (hb : PE X b tb) (hc : PE X c tc)
    (hm : lastMarks [op, op'] [b, c] = false := by with_unfolding_all rfl) : PE X (.Compare a [op, op'] [b, c] pos) (tChain r r' ta tb tc) := by
  intro pins s σ H Q I h
  refine Compare_chain (thn (ha pins s σ H _ I h) fun v s1 ⟨x, H1, I1, r1, q1⟩ => chain_link (thn (hb pins s1 σ H1 _ I1 q1) fun u s2 ⟨y, H2, I2, r2, q2⟩ =>
    thn (ho pins s2 σ H2 x y v u _ I2 r1 r2 q2) fun d s3 ⟨z, H3, I3, r3, k, e, q3⟩ => ?_)) hm
  subst e
  cases r3
  refine wpAny_truthy_bool ?_
  cases k with
  | false => exact ite_ff ⟨.bl false, H3, I3, rfl, q3⟩
  | true => exact ite_tt (chain_last (thn (hc pins s3 σ H3 _ I3 q3) fun w' s4 ⟨z', H4, I4, r4, q4⟩ => ho' pins s4 σ H4 y z' u w' Q I4 r2 r4 q4))
theorem line63 : (sizeLine : Nat) < 2 ^ 63 := by rw [sizeLine_eq]; decide
theorem op_add_str : OpR X (binaryOp .Add) (fun x y H Q => ∃ i j, x = .str i ∧ y = .str j ∧ i.length + j.length ≤ sizeLine ∧ Q (.str (i ++ j)) H) := by
  intro pins s σ H x y v u Q I rx ry h
  obtain ⟨i, j, rfl, rfl, hz, q⟩ := h
  obtain ⟨t, rfl⟩ := rx
  obtain ⟨t', rfl⟩ := ry
  exact add_str (fun t' tk => ⟨.str (i ++ j), H, I.tok _, ⟨_, rfl⟩, q⟩) hz
theorem vals1 {x : V} {us : List Value} (r : Vals [x] us) : ∃ u, us = [u] ∧ RelV x u := by
  cases r with
  | cons r1 r2 => cases r2; exact ⟨_, rfl, r1⟩
theorem vals2 {x y : V} {us : List Value} (r : Vals [x, y] us) : ∃ u w', us = [u, w'] ∧ RelV x u ∧ RelV y w' := by
  cases r with
  | cons r1 r2 =>
    cases r2 with
    | cons r3 r4 => cases r4; exact ⟨_, _, rfl, r1, r3⟩
theorem call_max2 (hc : X.calm = true) : CallR X (.builtin "max") (fun xs H Q => ∃ i j, xs = [.int i, .int j] ∧ Q (.int (if j > i then j else i)) H) := by
  intro pins s σ H xs us Q I r h
  obtain ⟨i, j, rfl, q⟩ := h
  obtain ⟨u, w', rfl, ⟨t, rfl⟩, ⟨t', rfl⟩⟩ := vals2 r
  refine max_two_ints (I.ok.hd hc) fun h' tk k => ⟨_, H, I.kept k, ?_, q⟩
  by_cases hj : j > i
  · rw [if_pos hj, if_pos hj]; exact ⟨_, rfl⟩
  · rw [if_neg hj, if_neg hj]; exact ⟨_, rfl⟩
theorem call_min2 (hc : X.calm = true) : CallR X (.builtin "min") (fun xs H Q => ∃ i j, xs = [.int i, .int j] ∧ Q (.int (if j < i then j else i)) H) := by
  intro pins s σ H xs us Q I r h
  obtain ⟨i, j, rfl, q⟩ := h
  obtain ⟨u, w', rfl, ⟨t, rfl⟩, ⟨t', rfl⟩⟩ := vals2 r
  refine min_two_ints (I.ok.hd hc) fun h' tk k => ⟨_, H, I.kept k, ?_, q⟩
  by_cases hj : j < i
  · rw [if_pos hj, if_pos hj]; exact ⟨_, rfl⟩
  · rw [if_neg hj, if_neg hj]; exact ⟨_, rfl⟩
theorem call_int1 : CallR X (.type "int") (fun xs H Q => (∃ i, xs = [.int i] ∧ Q (.int i) H) ∨ ∃ k, xs = [.bl k] ∧ Q (.int (if k then 1 else 0)) H) := by
  intro pins s σ H xs us Q I r h
  rcases h with ⟨i, rfl, q⟩ | ⟨k, rfl, q⟩
  · obtain ⟨u, rfl, t, rfl⟩ := vals1 r
    exact call_int_int ⟨.int i, H, I, ⟨_, rfl⟩, q⟩
  · obtain ⟨u, rfl, r1⟩ := vals1 r
    cases r1
    exact call_int_bool ⟨.int (if k then 1 else 0), H, I.tok _, ⟨_, rfl⟩, q⟩
theorem call_str_int : CallR X (.type "str") (fun xs H Q => ∃ i, xs = [.int i] ∧ i.natAbs.log2 < 1920 ∧ Q (.str (toString i)) H) := by
  intro pins s σ H xs us Q I r h
  obtain ⟨i, rfl, hz, q⟩ := h
  obtain ⟨u, rfl, t, rfl⟩ := vals1 r
  exact PySem.P.str_of_int hz ⟨.str _, H, I.tok _, ⟨_, rfl⟩, q⟩
def LenV (K : PySem.W.Frag) (x : V) (H : Hp) (n : Nat) : Prop :=
  match x with
  | .str y => y.length ≤ sizeLine ∧ n = y.length
  | .byt y => y.size ≤ sizeLine ∧ n = y.size
  | .ref p => (∃ xs, SqL K H p xs ∧ n = xs.length) ∨ ∃ xs, SqT K H p xs ∧ n = xs.length
  | _ => False
theorem call_len : CallR X (.builtin "len") (fun xs H Q => ∃ x n, xs = [x] ∧ LenV X.K x H n ∧ Q (.int n) H) := by
  intro pins s σ H xs us Q I r h
  obtain ⟨x, n, rfl, e, q⟩ := h
  obtain ⟨u, rfl, rx⟩ := vals1 r
  have hl := line63
  have hs : sizeLine = 16777216 := sizeLine_eq
  cases x with
  | str y =>
    obtain ⟨t, rfl⟩ := rx
    obtain ⟨hy, e'⟩ : y.length ≤ sizeLine ∧ n = y.length := e
    subst e'
    exact len_str (by omega) ⟨.int _, H, I.tok _, ⟨_, rfl⟩, q⟩
  | byt y =>
    obtain ⟨t, rfl⟩ := rx
    obtain ⟨hy, e'⟩ : y.size ≤ sizeLine ∧ n = y.size := e
    subst e'
    exact PySem.W.len_bytes (by omega) ⟨.int _, H, I.tok _, ⟨_, rfl⟩, q⟩
  | ref p =>
    cases rx
    have e' : (∃ xs, SqL X.K H p xs ∧ n = xs.length) ∨ ∃ xs, SqT X.K H p xs ∧ n = xs.length := e
    rcases e' with ⟨xs, hx, e'⟩ | ⟨xs, hx, e'⟩
    · subst e'
      obtain ⟨its, r', pl, hz⟩ := I.list hx
      have hlen := r'.length
      exact Calls.call_len_list pl.isList (by simp only [List.size_toArray]; omega) ⟨.int xs.length, H, I.tok _, ⟨_, by simp only [List.size_toArray]; rw [hlen]⟩, q⟩
    · subst e'
      obtain ⟨its, r', pl, hz⟩ := I.tuple hx
      have hlen := r'.length
      exact len_tuple pl (by simp only [List.size_toArray]; omega) ⟨.int xs.length, H, I.tok _, ⟨_, by simp only [List.size_toArray]; rw [hlen]⟩, q⟩
  | _ => exact (show False from e).elim
end
structure ObjM (h : Heap) (x dx C : Addr) (mA : Str → Option Value) : Prop where
  obj : h.get? x = some (PySem.W.instObj C dx)
  ns : h.Ns1 dx mA
  ne : dx ≠ x
theorem lookIn_ns {h : Heap} {dx : Addr} {mA : Str → Option Value} (n : h.Ns1 dx mA) : ∃ od, h.get? dx = some od ∧ ∀ name, PySem.W.lookIn name od = some (mA name) := by
  obtain ⟨o, es, ep, ho, hd, hk, _, hm⟩ := n
  refine ⟨o, ho, fun name => ?_⟩
  have e := hm name
  unfold nsFind findBy at e
  rw [← Array.find?_toList] at e
  unfold PySem.W.lookIn
  rw [hd]
  dsimp only
  split
  · rename_i y q
    rw [q] at e
    exact congrArg some e
  · rename_i q
    rw [q] at e
    have a : es.toList.any (·.refKey) = false := by
      rw [List.any_eq_false]
      intro y hy
      obtain ⟨z, t, hkey⟩ := hk y (Array.mem_toList_iff.mp hy)
      simp [DictEntry.refKey, hkey]
    have a' : ¬ es.toList.any (·.refKey) = true := by rw [a]; exact Bool.false_ne_true
    rw [if_neg a']
    exact congrArg some e
theorem ObjM.look {h : Heap} {x dx C : Addr} {mA : Str → Option Value} (I : ObjM h x dx C mA) : ∃ od, PySem.W.InstAt h x (PySem.W.instObj C dx) C (some od) ∧ ∀ name, PySem.W.lookIn name od = some (mA name) :=
  let ⟨od, ho, hl⟩ := lookIn_ns I.ns
  ⟨od, ⟨I.obj, rfl, rfl, ho⟩, hl⟩
def putF (f : Str) (v : V) : List (Str × V) → List (Str × V)
  | [] => [(f, v)]
  | (g, x) :: r => if g = f then (g, v) :: r else (g, x) :: putF f v r
theorem lookup_putF (f g : Str) (v : V) : ∀ fs : List (Str × V), (putF f v fs).lookup g = if g = f then some v else fs.lookup g
  | [] => by
    show List.lookup g [(f, v)] = _
    by_cases h : g = f
    · have hb : (g == f) = true := beq_iff_eq.mpr h
      simp only [List.lookup, hb, if_pos h]
    · have hb : (g == f) = false := beq_eq_false_iff_ne.mpr h
      simp only [List.lookup, hb, if_neg h]
  | (k, x) :: r => by
    have ih := lookup_putF f g v r
    rw [show putF f v ((k, x) :: r) = (if k = f then (k, v) :: r else (k, x) :: putF f v r) from rfl]
    by_cases hk : k = f
    · rw [if_pos hk]
      by_cases h : g = k
      · have hb : (g == k) = true := beq_iff_eq.mpr h
        simp only [List.lookup, hb, if_pos (h.trans hk)]
      · have hb : (g == k) = false := beq_eq_false_iff_ne.mpr h
        simp only [List.lookup, hb, if_neg (fun e : g = f => h (e.trans hk.symm))]
    · rw [if_neg hk]
      by_cases h : g = k
      · have hb : (g == k) = true := beq_iff_eq.mpr h
        simp only [List.lookup, hb, if_neg (fun e : g = f => hk (h.symm.trans e))]
      · have hb : (g == k) = false := beq_eq_false_iff_ne.mpr h
        simp only [List.lookup, hb]
        exact ih
theorem keys_putF (f : Str) (v : V) : ∀ fs : List (Str × V), f ∈ (putF f v fs).map (·.1) ∧ ∀ g, g ∈ fs.map (·.1) → g ∈ (putF f v fs).map (·.1)
  | [] => ⟨by simp [putF], fun g h => by simp at h⟩
  | (k, x) :: r => by
    obtain ⟨i1, i2⟩ := keys_putF f v r
    rw [show putF f v ((k, x) :: r) = (if k = f then (k, v) :: r else (k, x) :: putF f v r) from rfl]
    by_cases hk : k = f
    · rw [if_pos hk]
      subst hk
      exact ⟨by simp, fun g h => by simpa using h⟩
    · rw [if_neg hk]
      refine ⟨?_, fun g h => ?_⟩
      · rw [List.map_cons]
        exact List.mem_cons_of_mem _ i1
      · rw [List.map_cons] at h ⊢
        rcases List.mem_cons.mp h with e | e
        · exact List.mem_cons.mpr (.inl e)
        · exact List.mem_cons_of_mem _ (i2 g e)
theorem length_putF (f : Str) (v : V) : ∀ fs : List (Str × V), (putF f v fs).length ≤ fs.length + 1
  | [] => by simp [putF]
  | (k, x) :: r => by
    have ih := length_putF f v r
    rw [show putF f v ((k, x) :: r) = (if k = f then (k, v) :: r else (k, x) :: putF f v r) from rfl]
    by_cases hk : k = f
    · rw [if_pos hk, List.length_cons, List.length_cons]; omega
    · rw [if_neg hk, List.length_cons, List.length_cons]; omega
theorem RelO.some_of {v : V} {o : Option Value} (r : RelO (some v) o) : ∃ u, o = some u ∧ RelV v u := by
  cases o with
  | none => exact (show False from r).elim
  | some u => exact ⟨u, rfl, r⟩
theorem handed_of {v : V} {u : Value} (r : RelV v u) : PySem.W.handedIn u = true := by
  cases v with
  | non => cases (show u = Value.none from r); rfl
  | bl b => cases (show u = Value.bool b from r); rfl
  | int i => obtain ⟨t, e⟩ := (show ∃ t, u = Value.int i t from r); cases e; rfl
  | str x => obtain ⟨t, e⟩ := (show ∃ t, u = Value.str x t from r); cases e; rfl
  | byt b => obtain ⟨t, e⟩ := (show ∃ t, u = Value.bytes b t from r); cases e; rfl
  | flt b => obtain ⟨t, e⟩ := (show ∃ t, u = Value.float b t from r); cases e; rfl
  | ref a => cases (show u = Value.ref a from r); rfl
  | ty n => cases (show u = Value.type n from r); rfl
section
variable {P : Program} {w : World} {H H' : Hp} {h h' : Heap} {a C dx : Addr} {fs fs' : List (Str × V)}
theorem ins_get (hok : HOk P w H h) (e : H a = some (.ins C dx fs)) : ∃ mA, ObjM h a dx C mA ∧ (∀ f, RelO (fs.lookup f) (mA f)) ∧ PySem.Within mA (fs.map (·.1)) ∧ fs.length ≤ 1000 ∧ H dx = some (.own a) := by
  obtain ⟨d, z, ne, ob, mA, n, r, q⟩ := (show ObjOk P w H h a (.ins C dx fs) from hok a _ e)
  exact ⟨mA, ⟨ob, n, ne⟩, r, q, z, d⟩
end
structure Cls (K : PySem.W.Frag) (C : Addr) : Prop where
  pg : PySem.W.plainGet K C Str.empty = true
  hd : PySem.W.hasDictIn K C = true
  po : PySem.W.plainOver K C = true
  sa : PySem.W.findIn K (.ref C) "__setattr__" = some (some (.builtin "object.__setattr__"))
theorem Cls.get {K : PySem.W.Frag} {C : Addr} (c : Cls K C) (f : Str) : PySem.W.plainGet K C f = true := c.pg
def NoAttr (K : PySem.W.Frag) (C : Addr) (f : Str) : Prop := PySem.W.findIn K (.ref C) f = some none
theorem NoAttr.taker {K : PySem.W.Frag} {C : Addr} {f : Str} (n : NoAttr K C f) : PySem.W.takerIn K C f = some none := by
  unfold PySem.W.takerIn
  rw [show PySem.W.findIn K (.ref C) f = some none from n]
  rfl
structure Meth (K : PySem.W.Frag) (C : Addr) (m : Str) (f : Addr) : Prop where
  at_ : PySem.W.findIn K (.ref C) m = some (some (.ref f))
  fn : PySem.W.isFn K (.ref f) = true
  kp : PySem.W.keepIn K (.ref f) = true
section
variable {X : Cx} {pins : List (Addr × Obj)} {σ : St} {H : Hp} {s : Shared} {a C dx : Addr} {fs : List (Str × V)} {f : Str} {v : V} {A : Around} {E : Value → Shared → Prop}
theorem attr_of {prog : Program} {w : World} {env : Env} {e : Expr} {f : Str} {pos : Pos} {s : Shared} {Q : Value → Shared → Prop} (hb : attributeBase e f env (eval e env) = eval e env)
    (h : wpAny (model prog w) A (eval e env) (fun o s₁ => wpAny (model prog w) A (getAttr o f true) Q E s₁) E s) : wpAny (model prog w) A (eval (.Attribute e f pos) env) Q E s :=
  Attribute_any_ h (by rw [arm_eval_Attribute, hb])
end
section
variable {X : Cx} {pins : List (Addr × Obj)} {σ : St} {H : Hp} {s : Shared} {A : Around} {E : Value → Shared → Prop} {Q : Value → Shared → Prop} {c : Value} {b : Bool}
inductive TyOf (K : PySem.W.Frag) (H : Hp) : V → Value → Prop where
  | non : TyOf K H .non (.type "NoneType")
  | bl (x : Bool) : TyOf K H (.bl x) (.type "bool")
  | int (i : Int) : TyOf K H (.int i) (.type "int")
  | str (x : Str) : TyOf K H (.str x) (.type "str")
  | flt (x : UInt64) : TyOf K H (.flt x) (.type "float")
  | lst {a : Addr} {xs : List V} (e : H a = some (.lst xs)) : TyOf K H (.ref a) (.type "list")
  | frz {a : Addr} {o : Obj} {xs : List V} (e : H a = some (.frz o (.lst xs))) : TyOf K H (.ref a) (.type "list")
  | tup {a : Addr} {xs : List V} (e : H a = some (.tup xs)) : TyOf K H (.ref a) (.type "tuple")
  | dK {a : Addr} {kvs : List (Key × V)} (e : H a = some (.dK kvs)) : TyOf K H (.ref a) (.type "dict")
  | dT {a : Addr} {kvs : List (List Key × V)} (e : H a = some (.dT kvs)) : TyOf K H (.ref a) (.type "dict")
  | ins {a C dx : Addr} {fs : List (Str × V)} (e : H a = some (.ins C dx fs)) (cl : Cls K C) (ha : PySem.W.findIn K (.ref C) "__class__" = some (some (.builtin "object.__class__")))
      (hn : PySem.W.specialIn K (.builtin "object.__class__") "__get__" = some (some (.builtin "getset_descriptor.__get__"))) (htk : PySem.W.takesIn K (.builtin "object.__class__") = some true)
      (hm : PySem.W.mroIn K C (.type "object") = some true) : TyOf K H (.ref a) (.ref C)
theorem isinst_ok {x : V} {u t : Value} (I : Inv X pins σ H s) (rx : RelV x u) (ty : TyOf X.K H x t) (e : PySem.W.kitOne X.K t c = some b) (h : ∀ tk, Q (.bool b) { s with toks := tk }) :
    wpAny (model X.prog X.w) A (call (.builtin "isinstance") [u, c]) Q E s := by
  cases ty with
  | non => cases (show u = Value.none from rx); exact PySem.W.kia_one PySem.W.kitx_none I.kIn True.intro e (fun z => nomatch z) h
  | bl y => cases (show u = Value.bool y from rx); exact PySem.W.kia_one PySem.W.kitx_bool I.kIn True.intro e (fun z => nomatch z) h
  | int i => obtain ⟨t, q⟩ := (show ∃ t, u = Value.int i t from rx); cases q; exact PySem.W.kia_one PySem.W.kitx_int I.kIn True.intro e (fun z => nomatch z) h
  | str y => obtain ⟨t, q⟩ := (show ∃ t, u = Value.str y t from rx); cases q; exact PySem.W.kia_one PySem.W.kitx_str I.kIn True.intro e (fun z => nomatch z) h
  | flt y => obtain ⟨t, q⟩ := (show ∃ t, u = Value.float y t from rx); cases q; exact PySem.W.kia_one PySem.W.kitx_float I.kIn True.intro e (fun z => nomatch z) h
  | @lst a xs ea =>
    cases (show u = Value.ref a from rx)
    obtain ⟨_, _, n, _, h1⟩ := (show ObjOk X.prog X.w H s.heap a (.lst xs) from I.hok a _ ea)
    exact PySem.W.kia_one PySem.W.kitx_list I.kIn ⟨_, h1, rfl⟩ e (fun z => nomatch z) h
  | @frz a ob xs ea =>
    cases (show u = Value.ref a from rx)
    obtain ⟨_, _, _, n, _, h1⟩ := (show ObjOk X.prog X.w H s.heap a (.frz ob (.lst xs)) from I.hok a _ ea)
    exact PySem.W.kia_one PySem.W.kitx_list I.kIn ⟨_, h1, rfl⟩ e (fun z => nomatch z) h
  | @tup a xs ea =>
    cases (show u = Value.ref a from rx)
    obtain ⟨_, _, _, p⟩ := (show ObjOk X.prog X.w H s.heap a (.tup xs) from I.hok a _ ea)
    obtain ⟨o, h1, h2, _⟩ := p
    exact PySem.W.kia_one PySem.W.kitx_tuple I.kIn ⟨o, h1, h2⟩ e (fun z => nomatch z) h
  | @dK a kvs ea =>
    cases (show u = Value.ref a from rx)
    obtain ⟨_, _, vs, _, p⟩ := (show ObjOk X.prog X.w H s.heap a (.dK kvs) from I.hok a _ ea)
    obtain ⟨o, es, ep, h1, h2, _⟩ := p
    exact PySem.W.kia_one PySem.W.kitx_dict I.kIn ⟨o, h1, h2.1⟩ e (fun z => nomatch z) h
  | @dT a kvs ea =>
    cases (show u = Value.ref a from rx)
    obtain ⟨_, _, xs, _, o, es, ep, h1, h2, _⟩ := (show ObjOk X.prog X.w H s.heap a (.dT kvs) from I.hok a _ ea)
    exact PySem.W.kia_one PySem.W.kitx_dict I.kIn ⟨o, h1, h2.1⟩ e (fun z => nomatch z) h
  | @ins a C dx fs ea cl ha hn htk hm =>
    cases (show u = Value.ref a from rx)
    obtain ⟨mA, O, _⟩ := ins_get I.hok ea
    obtain ⟨od, J, _⟩ := O.look
    exact PySem.W.kia_one (PySem.W.kitx_own (cl.get _) cl.hd ha hn htk hm) I.kIn J e (fun z => nomatch z) h
end
structure Room (k : Nat) (A : Around) : Prop where
  hd : A.handled = none
  dp : A.depth + 3 * k + 5 < recursionLimit
  un : A.units + 16 * k + 200 < cLine
  gd : A.guards = some []
theorem Room.mono {j k : Nat} {A : Around} (r : Room k A) (h : j ≤ k) : Room j A := ⟨r.hd, by have := r.dp; omega, by have := r.un; omega, r.gd⟩
theorem Room.deeper {k : Nat} {A : Around} (r : Room (k + 1) A) (env : Env) : Room k (A.deeper env) :=
  ⟨r.hd, by have := r.dp; show A.depth + 1 + 3 * k + 5 < _; omega, by have := r.un; show A.units + 3 + 16 * k + 200 < _; omega, r.gd⟩
theorem make_depth {A : Around} {C : Addr} {us : List Value} {kw : List (Str × Value)} : (A.under (.builtin "type.__call__" ⟨.ref C :: us, kw⟩)).depth = A.depth + 1 := by
  first | rfl | simp [Around.under, Code.weight, Code.isCreation, Code.isGuard, Code.isCaller, Code.frames, Code.isFrame, guardIds]
theorem make_units {A : Around} {C : Addr} {us : List Value} {kw : List (Str × Value)} : (A.under (.builtin "type.__call__" ⟨.ref C :: us, kw⟩)).units = A.units + 1 := by
  first | rfl | simp [Around.under, Code.cUnits, Code.frames, Code.isFrame]
theorem Room.make {k : Nat} {A : Around} (r : Room (k + 1) A) (C : Addr) (us : List Value) (kw : List (Str × Value)) : Room k (A.under (.builtin "type.__call__" ⟨.ref C :: us, kw⟩)) :=
  ⟨r.hd, by have := r.dp; rw [make_depth]; omega, by have := r.un; rw [make_units]; omega, by first | exact r.gd | (simp [Around.under, Code.guards, Code.isGuard, guardIds, pushGuards]; exact r.gd)⟩
theorem Room.depth {k : Nat} {A : Around} (r : Room k A) : A.depth < recursionLimit := by have := r.dp; omega
theorem Room.units {k : Nat} {A : Around} (r : Room k A) : A.units + 64 < cLine := by have := r.un; omega
def tNil : TA := fun _ H Q => Q [] H
def tCons (ta : TE) (tr : TA) : TA := fun σ H Q => ta σ H fun x H1 => tr σ H1 fun xs H2 => Q (x :: xs) H2
section
variable {X : Cx} {e : Expr} {es : List Expr} {te : TE} {t : TA} {pos : Pos}
theorem pa_nil : PA X [] tNil := fun _ _ _ _ H Q I h => Calls.spliced_nil ⟨[], H, I, .nil, h⟩
theorem pa_cons (ha : PE X e te) (hr : PA X es t) (hs : starEach (e :: es) X.env = (false, eval e X.env) :: starEach es X.env := by rfl) : PA X (e :: es) (tCons te t) := by
  intro pos pins s σ H Q I h
  rw [hs]
  show wpAny _ _ (spliced ((false, eval e X.env) :: backTo pos (starEach es X.env))) _ _ s
  refine Calls.spliced_cons (thn (ha pins s σ H _ I h) fun u s1 ⟨x, H1, I1, r1, q1⟩ => ?_)
  exact thn (hr pos pins s1 σ H1 _ I1 q1) fun us s2 ⟨xs, H2, I2, r2, q2⟩ => ⟨x :: xs, H2, I2, .cons r1 r2, q2⟩
end
abbrev Sp := List V → Hp → VK → XK → Prop
abbrev CXT := List Env → Hp → Shared → XK → Value → Shared → Prop
structure Env0 (P : Program) (w : World) (K : PySem.W.Frag) (mg : Str → Option Value) (base : Heap) (A : Around) (outer : List Env) (s : Shared) (H : Hp) : Prop where
  frames : A.frames = some outer
  mod : Mod K mg base
  bs : ∀ b o, base.get? b = some o → s.heap.get? b = some o ∧ H b = none
  bsz : base.objs.size ≤ s.heap.objs.size
  funs : s.heap.FunFrames base outer
  frf : ∀ b ∈ frs outer, H b = none
  hok : HOk P w H s.heap
  bare : AllBare s.gens
def CE (outer : List Env) (P : Program) (w : World) (H : Hp) (s : Shared) (Q : VK) (u : Value) (s' : Shared) : Prop :=
  ∃ v H', s'.os = s.os ∧ AllBare s'.gens ∧ Un (frs outer) [] H H' s.heap s'.heap ∧ HOk P w H' s'.heap ∧ RelV v u ∧ Q v H'
def CR (CX : CXT) (outer : List Env) (P : Program) (w : World) (H : Hp) (s : Shared) (Q : VK) (E : XK) (r : Result) (s' : Shared) : Prop :=
  match r with
  | .ok (.ret u) => CE outer P w H s Q u s'
  | .ok _ => False
  | .error e => CX outer H s E e s'
structure FnOk (P : Program) (w : World) (K : PySem.W.Frag) (mg : Str → Option Value) (base : Heap) (CX : CXT) (k : Nat) (f : Addr) (fd : FuncData) (ps : List Str) (sp : Sp) : Prop where
  len : ∀ vs H Q E, sp vs H Q E → vs.length = ps.length
  run : ∀ (A : Around) (outer : List Env) (s : Shared) (H : Hp) (args : Args) (us : List Value) (vs : List V) (Q : VK) (E : XK), Room k A → Env0 P w K mg base A outer s H → BindsTo s fd args (ps.zip us) → Vals vs us → sp vs H Q E →
    codeAny (model P w) A (.call (.ref f) args) (CR CX outer P w H s Q E) s
theorem Env0.make {P : Program} {w : World} {K : PySem.W.Frag} {mg : Str → Option Value} {base : Heap} {A : Around} {outer : List Env} {s : Shared} {H : Hp} (e : Env0 P w K mg base A outer s H) (C : Addr) (us : List Value) (kw : List (Str × Value)) :
    Env0 P w K mg base (A.under (.builtin "type.__call__" ⟨.ref C :: us, kw⟩)) outer s H := ⟨by first | exact e.frames | (simpa [Around.under, Code.envs, Code.isFrame, pushEnvs] using e.frames), e.mod, e.bs, e.bsz, e.funs, e.frf, e.hok, e.bare⟩
section
variable {X : Cx} {pins : List (Addr × Obj)} {σ : St} {H : Hp} {s s' : Shared}
theorem Inv.env0 (I : Inv X pins σ H s) : Env0 X.prog X.w X.K X.mg X.base X.A X.stack s H :=
  ⟨I.ok.frames, I.ok.mod, I.bs, Nat.le_trans I.ok.bsz I.sz, I.stack, I.stkFree, I.hok, I.bare⟩
theorem Inv.after {Q : VK} {u : Value} (I : Inv X pins σ H s) (h : CE X.stack X.prog X.w H s Q u s') : EP X pins σ Q u s' := by
  obtain ⟨v, H', os, bare, un, hok, r, q⟩ := h
  obtain ⟨hh, g, d, t, os'⟩ := s'
  obtain rfl : os' = s.os := os
  exact ⟨v, H', I.call (h' := hh) (g' := g) (d' := d) (t' := t) (ch := []) un hok bare (fun b z => absurd z (by simp)), r, q⟩
end
def tCall (sp : Sp) (dvs : List V) (E : XK) (t : TA) : TE := fun σ H Q => t σ H fun vs H1 => sp (vs ++ dvs) H1 Q E
def Binds (K : PySem.W.Frag) (fd : FuncData) (ps : List Str) (ds : List Value) : Prop :=
  ∀ (s : Shared) (us : List Value), K.In s.heap → (us ++ ds).length = ps.length → BindsTo s fd ⟨us, []⟩ (ps.zip (us ++ ds))
theorem Binds.all {K : PySem.W.Frag} {fd : FuncData} {ps : List Str} (h : ∀ us : List Value, us.length = ps.length → bindArgs fd ⟨us, []⟩ = pure (ps.zip us)) : Binds K fd ps [] := fun s us _ hl => by
  rw [List.append_nil] at hl ⊢
  exact .of_eq (h us hl)
def Passes (CX : CXT) (X : Cx) (E : XK) : Prop := ∀ (pins : List (Addr × Obj)) (σ : St) (H : Hp) (s : Shared) (e : Value) (s' : Shared), Inv X pins σ H s → CX X.stack H s E e s' → X.xe e s'
section
variable {X : Cx} {CX : CXT} {k : Nat} {f C : Addr} {fd : FuncData} {ps : List Str} {sp : Sp} {dvs : List V} {ds : List Value} {E : XK} {x m : Str} {p pos apos : Pos} {e o : Expr} {es : List Expr} {ta : TE} {t : TA}
theorem run_fn {pins : List (Addr × Obj)} {σ : St} {H : Hp} {s : Shared} {Q : VK} {us : List Value} {vs : List V} (F : FnOk X.prog X.w X.K X.mg X.base CX k f fd ps sp) (hr : Room k X.A) (hb : Binds X.K fd ps ds) (hd : Vals dvs ds) (hx : Passes CX X E)
    (I : Inv X pins σ H s) (r : Vals vs us) (h : sp (vs ++ dvs) H Q E) : wpAny (model X.prog X.w) X.A (call (.ref f) us) (EP X pins σ Q) X.xe s := by
  have r2 : Vals (vs ++ dvs) (us ++ ds) := r.append hd
  have hl : (us ++ ds).length = ps.length := by rw [← r2.length]; exact F.len _ _ _ _ h
  refine wpAny_call (codeAny_mono (F.run X.A X.stack s H ⟨us, []⟩ (us ++ ds) (vs ++ dvs) Q E hr I.env0 (hb s us I.kIn hl) r2 h) fun r s' hq => ?_)
  cases r with
  | error e => exact hx pins σ H s e s' I hq
  | ok fl =>
    cases fl with
    | ret u => exact I.after hq
    | next => exact False.elim hq
    | brk => exact False.elim hq
    | cont => exact False.elim hq
theorem pe_call (F : FnOk X.prog X.w X.K X.mg X.base CX k f fd ps sp) (hr : Room k X.A) (hg : Gl X x) (hm : X.mg x = some (.ref f)) (hk : PySem.W.keepIn X.K (.ref f) = true) (hb : Binds X.K fd ps ds) (hd : Vals dvs ds) (hx : Passes CX X E)
    (ha : PA X (e :: es) t) (hdb : (x == ("__debug__" : Str)) = false := by decide) (he : starEach (e :: es) X.env = (false, eval e X.env) :: starEach es X.env := by rfl) (hpl : (backTo pos (starEach es X.env)).any (·.1) = false := by rfl) :
    PE X (.Call (.Name x p) (e :: es) [] pos) (tCall sp dvs E t) := by
  intro pins s σ H Q I h
  refine wpAny_Call_Name_kw (ld_glob I hg hm ?_ hdb)
  refine PySem.W.callWith_K (h₀ := X.base) I.ok.mod.kin hk (thn (ha pos pins s σ H _ I h) fun us s1 ⟨vs, H1, I1, r, q⟩ => ⟨I1.kIn, ?_⟩) he hpl
  exact run_fn F hr hb hd hx I1 r q
end
structure FnScope (N P : List Str) (sc : Scope) : Prop where
  kind : sc.kind = .function
  co : sc.isCoroutine = false
  gen : sc.isGenerator = false
  nd : N.Nodup
  pre : N.take P.length = P
  par : ∀ x ∈ P, sc.names.lookup x = some .local ∨ sc.names.lookup x = some .cell
  nofree : ∀ y ∈ sc.names, y.2 ≠ .free
theorem bindL_out {kindOf : Str → Option NameKind} {x : Str} : ∀ {binds : List (Str × Value)} {m : Str → Option Value}, (∀ v, (x, v) ∉ binds) → bindL kindOf binds m x = m x
  | [], _, _ => rfl
  | (n, v) :: r, m, h => by
    unfold bindL
    rw [bindL_out fun w hw => h w (List.mem_cons_of_mem _ hw)]
    split
    · have : x ≠ n := by rintro rfl; exact h v List.mem_cons_self
      simp [this]
    · rfl
theorem bindC_out {kindOf : Str → Option NameKind} {x : Str} : ∀ {binds : List (Str × Value)} {m : Str → Option Value}, (∀ v, (x, v) ∉ binds) → bindC kindOf binds m x = m x
  | [], _, _ => rfl
  | (n, v) :: r, m, h => by
    unfold bindC
    rw [bindC_out fun w hw => h w (List.mem_cons_of_mem _ hw)]
    split
    · rfl
    · have : x ≠ n := by rintro rfl; exact h v List.mem_cons_self
      simp [this]
theorem bindL_get {kindOf : Str → Option NameKind} {x : Str} {v : Value} : ∀ {P : List Str} {vs : List Value} {i : Nat} {m : Str → Option Value}, P.Nodup → P[i]? = some x → vs[i]? = some v → kindOf x = some .local →
    bindL kindOf (P.zip vs) m x = some v
  | [], _, _, _, _, h, _, _ => by simp at h
  | _ :: _, [], _, _, _, _, h, _ => by simp at h
  | p :: P, w :: vs, 0, m, nd, h1, h2, hk => by
    simp at h1 h2; subst h1; subst h2
    show bindL kindOf ((p, w) :: P.zip vs) m p = _
    unfold bindL
    rw [bindL_out fun v hv => (List.nodup_cons.mp nd).1 (List.of_mem_zip hv).1, if_pos hk]
    simp
  | p :: P, w :: vs, i + 1, m, nd, h1, h2, hk => by
    show bindL kindOf ((p, w) :: P.zip vs) m x = _
    unfold bindL
    exact bindL_get (i := i) (List.nodup_cons.mp nd).2 (by simpa using h1) (by simpa using h2) hk
theorem bindC_get {kindOf : Str → Option NameKind} {x : Str} {v : Value} : ∀ {P : List Str} {vs : List Value} {i : Nat} {m : Str → Option Value}, P.Nodup → P[i]? = some x → vs[i]? = some v → kindOf x ≠ some .local →
    bindC kindOf (P.zip vs) m x = some v
  | [], _, _, _, _, h, _, _ => by simp at h
  | _ :: _, [], _, _, _, _, h, _ => by simp at h
  | p :: P, w :: vs, 0, m, nd, h1, h2, hk => by
    simp at h1 h2; subst h1; subst h2
    show bindC kindOf ((p, w) :: P.zip vs) m p = _
    unfold bindC
    rw [bindC_out fun v hv => (List.nodup_cons.mp nd).1 (List.of_mem_zip hv).1, if_neg hk]
    simp
  | p :: P, w :: vs, i + 1, m, nd, h1, h2, hk => by
    show bindC kindOf ((p, w) :: P.zip vs) m x = _
    unfold bindC
    exact bindC_get (i := i) (List.nodup_cons.mp nd).2 (by simpa using h1) (by simpa using h2) hk
def start (N : List Str) (vs : List V) : St := vs.map some ++ List.replicate (N.length - vs.length) none
def cxOf (CX : CXT) (P : Program) (w : World) (K : PySem.W.Frag) (mg : Str → Option Value) (base : Heap) (N : List Str) (qual : Str) (scope : Scope) (f : Addr) (cd : Value) (A : Around) (outer : List Env) (s : Shared) (H : Hp) (E : XK) : Cx where
  prog := P
  w := w
  K := K
  mg := mg
  base := base
  A := A.deeper (envOfC qual scope s.heap.objs.size f cd)
  N := N
  s₀ := s
  H₀ := H
  env := envOfC qual scope s.heap.objs.size f cd
  outer := outer
  stack := envOfC qual scope s.heap.objs.size f cd :: outer
  ex := []
  calm := true
  fn := fun _ => true
  pn := []
  xe := fun e s' => wpAny (model P w) (A.deeper (envOfC qual scope s.heap.objs.size f cd)) (leaving (envOfC qual scope s.heap.objs.size f cd) e) (fun _ s'' => CX outer H s E e s'') (fun e' s'' => CX outer H s E e' s'') s'
theorem cell_has {sc : Scope} {n : Nat} {x : Str} (h : sc.names.lookup x = some .cell) : ∃ c, (cellsFrom n sc.names []).lookup x = some c := by
  have q := PySem.W.cellsFrom_some sc.names n [] (.inl h)
  exact Option.isSome_iff_exists.mp q
theorem inv_start {CX : CXT} {P : Program} {w : World} {K : PySem.W.Frag} {mg : Str → Option Value} {base : Heap} {N ps : List Str} {qual : Str} {scope : Scope} {f : Addr} {cd : Value} {A : Around} {outer : List Env} {s s1 : Shared} {H : Hp} {E : XK} {us : List Value} {vs : List V}
    (S : FnScope N ps scope) (hd : A.handled = none) (e0 : Env0 P w K mg base A outer s H) (hl : vs.length = ps.length) (r : Vals vs us)
    (x : InCallC s s.heap.objs.size (bindL (envOfC qual scope s.heap.objs.size f cd).kindOf (ps.zip us) fun _ => none) (cellsFrom (s.heap.objs.size + 1) scope.names []) (bindC (envOfC qual scope s.heap.objs.size f cd).kindOf (ps.zip us) fun _ => none) s1) :
    Inv (cxOf CX P w K mg base N qual scope f cd A outer s H E) [] (start N vs) H s1 := by
  have hpl : ps.length ≤ N.length := by have := congrArg List.length S.pre; rw [List.length_take] at this; omega
  obtain ⟨h1, tk, rfl, hk⟩ := x.done
  have noA : ∀ b : Addr, b ∉ (cxOf CX P w K mg base N qual scope f cd A outer s H E).ex := fun b z => absurd (show b ∈ ([] : List Addr) from z) (by simp)
  refine ⟨⟨e0.mod, S.kind, rfl, rfl, Nat.le_refl _, fun y z c h1 h2 => ?_, fun y hy => ?_, fun y c _ h => ?_, fun _ => hd, Around.frames_deeper e0.frames, .inr ⟨rfl, rfl⟩, fun b z => absurd z (noA b), e0.bs, e0.bsz, fun b _ _ => noA b, fun b z => absurd z (noA b), e0.funs, e0.frf⟩,
    rfl, e0.bare, Un.kept hk, ⟨_, x.toInCall.ns, fun i y v h1 h2 h3 => ?_⟩, fun y c h => ⟨_, x.cell y c h⟩, e0.hok.fresh (Nat.le_refl _), fun y c h => ?_, fun p hp => absurd (show p ∈ ([] : List (Addr × Obj)) from hp) (by simp), e0.hok.kept hk, ?_⟩
  · exact name_of_addr x.apart (PySem.mem_of_lookup h1) (PySem.mem_of_lookup h2)
  · have hy : scope.names.lookup y = some .cell ∨ scope.names.lookup y = some .free := hy
    rcases hy with hy | hy
    · exact cell_has hy
    · exact absurd rfl (S.nofree _ (PySem.mem_of_lookup hy))
  · exact Nat.le_of_lt (x.above y c (PySem.mem_of_lookup h))
  · have hi : i < vs.length := by
      unfold start at h2
      by_cases hi : i < vs.length
      · exact hi
      · rw [List.getElem?_append_right (by simpa using hi)] at h2
        rw [List.getElem?_replicate] at h2
        split at h2 <;> cases h2
    have ha : vs[i]? = some v := by
      unfold start at h2
      rw [List.getElem?_append_left (by simpa using hi), List.getElem?_map] at h2
      cases e : vs[i]? with
      | none => rw [e] at h2; cases h2
      | some a => rw [e] at h2; cases h2; rfl
    obtain ⟨u, hu, rv⟩ := r.get ha
    have hp : ps[i]? = some y := by
      rw [← S.pre, List.getElem?_take_of_lt (by omega)]; exact h1
    have ndP : ps.Nodup := by rw [← S.pre]; exact S.nd.sublist (List.take_sublist _ _)
    refine ⟨u, rv, ?_⟩
    rcases S.par y (List.mem_of_getElem? hp) with k | k
    · exact .inl ⟨k, bindL_get ndP hp hu k⟩
    · obtain ⟨c, e⟩ := cell_has (n := s.heap.objs.size + 1) k
      refine .inr ⟨.inl k, c, e, ?_⟩
      have q := x.cell y c e
      rw [bindC_get ndP hp hu (by show scope.names.lookup y ≠ _; rw [k]; decide)] at q
      exact q
  · exact e0.hok.fresh (Nat.le_of_lt (x.above y c (PySem.mem_of_lookup h)))
  · unfold start
    show _ = N.length
    rw [List.length_append, List.length_map, List.length_replicate]
    omega
theorem fn_of {CX : CXT} {P : Program} {w : World} {K : PySem.W.Frag} {mg : Str → Option Value} {base : Heap} {k : Nat} {f : Addr} {name qual : Str} {params : Arguments} {body : List Stmt} {scope : Scope} {dV kV doc pm cdv ct oc : Value} {an od : Option Addr}
    {osl : Array (Option Value)} {N ps : List Str} {sp : Sp} (lk : K.lookup f = some ⟨oc, od, .func (PySem.W.fnOf name qual params body scope dV kV doc pm an cdv ct), osl⟩) (hcd : PySem.W.codeIn K cdv qual = true) (S : FnScope N ps scope)
    (len : ∀ vs H Q E, sp vs H Q E → vs.length = ps.length)
    (hbody : ∀ (A : Around) (outer : List Env) (s : Shared) (H : Hp) (vs : List V) (Q : VK) (E : XK), Room k (A.deeper (envOfC qual scope s.heap.objs.size f cdv)) → sp vs H Q E →
      ∃ t, PSs (cxOf CX P w K mg base N qual scope f cdv A outer s H E) body t ∧ t { nx := fun _ H' => Q .non H', rt := Q } (start N vs) H) :
    FnOk P w K mg base CX (k + 1) f (PySem.W.fnOf name qual params body scope dV kV doc pm an cdv ct) ps sp := by
  refine ⟨len, fun A outer s H args us vs Q E hr e0 hb r hsp => ?_⟩
  have hl := len _ _ _ _ hsp
  have KX : K.In s.heap := e0.mod.kin.keeps fun b o e => (e0.bs b o e).1
  have lim : s.heap.NoLimit := e0.mod.nolimit.keeps fun b o e => (e0.bs b o e).1
  have hkind : ∀ y ∈ ps.zip us, scope.names.lookup y.1 = some .local ∨ (scope.names.lookup y.1 = some .cell ∧ ((cellsFrom (s.heap.objs.size + 1) scope.names []).lookup y.1).isSome = true) := fun ⟨n, v⟩ hy => by
    rcases S.par n (List.of_mem_zip hy).1 with q | q
    · exact .inl q
    · exact .inr ⟨q, PySem.W.cellsFrom_some _ _ _ (.inl q)⟩
  refine codeAny_call_function hr.depth (KX _ _ lk) rfl S.co S.gen rfl (PySem.W.codeRec_of KX hcd) (hb _ _ _ _ ?_)
  refine wpAny_newFunctionEnv_cells S.kind hkind fun env he s1 x => ?_
  subst he
  refine ⟨lim.keeps x.toInCall.keep, codeAny_func ?_⟩
  obtain ⟨t, ht, hq⟩ := hbody A outer s H vs Q E (hr.deeper _) hsp
  have I : Inv (cxOf CX P w K mg base N qual scope f cdv A outer s H E) [] (start N vs) H s1 := inv_start S hr.hd e0 hl r x
  refine wpAny_mono (ht [] s1 (start N vs) H _ I hq) (fun fl s' hs => ?_) fun e s' hs => hs
  have fin : ∀ {σ' : St} {H' : Hp} {v : V} {u : Value}, Inv (cxOf CX P w K mg base N qual scope f cdv A outer s H E) [] σ' H' s' → RelV v u → Q v H' → CE outer P w H s Q u s' :=
    fun {σ' H' v u} J rv q => ⟨v, H', J.os, J.bare, J.base, J.hok, rv, q⟩
  cases fl with
  | ret u =>
    obtain ⟨v, σ', H', J, rv, q⟩ := hs
    exact fin J rv q
  | next =>
    obtain ⟨σ', H', J, q⟩ := hs
    exact fin (v := V.non) (u := Value.none) J rfl q
  | brk =>
    obtain ⟨_, _, _, q⟩ := hs
    exact False.elim q
  | cont =>
    obtain ⟨_, _, _, q⟩ := hs
    exact False.elim q
section
variable {X : Cx} {x : Str} {p pos : Pos} {e : Expr} {es : List Expr} {t : TA} {id T : String} {r : List V → Hp → VK → Prop}
def tCB (r : List V → Hp → VK → Prop) (t : TA) : TE := fun σ H Q => t σ H fun vs H1 => r vs H1 Q
theorem pe_callB (hc : CallR X (.builtin id) r) (hg : Gl X x) (hm : X.mg x = none) (hv : bootBuiltins x = some (.builtin id)) (ha : PA X (e :: es) t) (hn : x ≠ "__name__" := by decide) (hdb : (x == ("__debug__" : Str)) = false := by decide)
    (he : starEach (e :: es) X.env = (false, eval e X.env) :: starEach es X.env := by rfl) (hpl : (backTo pos (starEach es X.env)).any (·.1) = false := by rfl) : PE X (.Call (.Name x p) (e :: es) [] pos) (tCB r t) := by
  intro pins s σ H Q I h
  refine wpAny_Call_Name_kw (ld_blt I hg hm hv ?_ hn hdb)
  exact PyProof.Rows.callWith_builtin1 (thn (ha pos pins s σ H _ I h) fun us s1 ⟨vs, H1, I1, r1, q1⟩ => hc pins s1 σ H1 vs us Q I1 r1 q1) he hpl
theorem pe_callTy (hc : CallR X (.type T) r) (hg : Gl X x) (hm : X.mg x = none) (hv : bootBuiltins x = some (.type T)) (ha : PA X (e :: es) t) (hn : x ≠ "__name__" := by decide) (hdb : (x == ("__debug__" : Str)) = false := by decide)
    (he : starEach (e :: es) X.env = (false, eval e X.env) :: starEach es X.env := by rfl) (hpl : (backTo pos (starEach es X.env)).any (·.1) = false := by rfl) : PE X (.Call (.Name x p) (e :: es) [] pos) (tCB r t) := by
  intro pins s σ H Q I h
  refine wpAny_Call_Name_kw (ld_blt I hg hm hv ?_ hn hdb)
  exact PyProof.Rows.callWith_type1 (thn (ha pos pins s σ H _ I h) fun us s1 ⟨vs, H1, I1, r1, q1⟩ => hc pins s1 σ H1 vs us Q I1 r1 q1) he hpl
end
end L2
namespace HT
open PySem PyProof.Rows
section
open PySem.SeqAt
open PySem.AutoSeq1 (wpAny_loadPart')
open PySem.MeetsSeq PySem.MeetsSeq2 PySem.MeetsSeq3
end
section
variable {prog : Program} {w : World} {A : Around} {E : Value → Shared → Prop} {s : Shared}
def sIx (n d : Nat) : Option Int → Nat
  | none => d
  | some v => if v < 0 then (v + (n : Int)).toNat else min v.toNat n
theorem sIx_nat (n d k : Nat) : sIx n d (some (k : Int)) = min k n := by
  show (if (k : Int) < 0 then ((k : Int) + (n : Int)).toNat else min (k : Int).toNat n) = min k n
  rw [if_neg (by omega), Int.toNat_natCast]
end
end HT
namespace L2
open PySem PySem.Spec PyProof.Rows
abbrev TO := St → Hp → (Option Int → Hp → Prop) → Prop
def PO (X : Cx) (e : Option Expr) (t : TO) : Prop :=
  ∀ (pins : List (Addr × Obj)) (s : Shared) (σ : St) (H : Hp) (Q : Option Int → Hp → Prop), Inv X pins σ H s → t σ H Q →
    wpAny (model X.prog X.w) X.A (evalPart e X.env) (fun u s' => ∃ o H', Inv X pins σ H' s' ∧ IsPart u o ∧ Q o H') X.xe s
def tNoPart : TO := fun _ H Q => Q none H
def tPart (t : TE) : TO := fun σ H Q => t σ H fun x H1 => ∃ i, x = .int i ∧ Q (some i) H1
section
variable {X : Cx} {e : Expr} {te : TE} {lo hi : Option Expr} {tl th : TO} {pos p2 : Pos}
theorem po_none : PO X none tNoPart := by
  intro pins s σ H Q I h
  rw [evalPart_none]
  exact wpAny_pure ⟨none, H, I, .none, h⟩
theorem po_some (h : PE X e te) : PO X (some e) (tPart te) := by
  intro pins s σ H Q I hw
  rw [evalPart_some]
  refine thn (h pins s σ H _ I hw) fun u s1 ⟨x, H1, I1, r1, q1⟩ => ?_
  obtain ⟨i, rfl, q⟩ := q1
  obtain ⟨t, rfl⟩ := r1
  exact ⟨some i, H1, I1, .int i t, q⟩
def SlR (X : Cx) (r : V → Option Int → Option Int → Hp → VK → Prop) : Prop :=
  ∀ (pins : List (Addr × Obj)) (s : Shared) (σ : St) (H : Hp) (x : V) (v vl vu : Value) (lo hi : Option Int) (sl : Addr) (Q : VK), Inv X pins σ H s → RelV x v → s.heap.IsSliceOf sl vl vu .none → IsPart vl lo → IsPart vu hi → r x lo hi H Q →
    ∃ T id, typeLookup (.type T) "__getitem__" = pure (some (.builtin id)) ∧ s.TypeIs v T ∧ wpAny (model X.prog X.w) X.A (getItem v (.ref sl)) (EP X pins σ Q) X.xe s
theorem SlR.or {r r' : V → Option Int → Option Int → Hp → VK → Prop} (h : SlR X r) (h' : SlR X r') : SlR X (fun x lo hi H Q => r x lo hi H Q ∨ r' x lo hi H Q) := by
  intro pins s σ H x v vl vu lo hi sl Q I rx hs pl pu q
  rcases q with q | q
  · exact h pins s σ H x v vl vu lo hi sl Q I rx hs pl pu q
  · exact h' pins s σ H x v vl vu lo hi sl Q I rx hs pl pu q
def tSl (r : V → Option Int → Option Int → Hp → VK → Prop) (te : TE) (tl th : TO) : TE := fun σ H Q => te σ H fun x H1 => tl σ H1 fun l H2 => th σ H2 fun u H3 => r x l u H3 Q
theorem pe_slice {r : V → Option Int → Option Int → Hp → VK → Prop} (hr : SlR X r) (he : PE X e te) (hl : PO X lo tl) (hu : PO X hi th) : PE X (.Subscript e (.Slice lo hi none p2) pos) (tSl r te tl th) := by
  intro pins s σ H Q I h
  refine Subscript_ (thn (he pins s σ H _ I h) fun v s1 ⟨x, H1, I1, r1, q1⟩ => ?_)
  refine wpAny_Slice (thn (hl pins s1 σ H1 _ I1 q1) fun vl s2 ⟨l, H2, I2, pl, q2⟩ => thn (hu pins s2 σ H2 _ I2 q2) fun vu s3 ⟨u, H3, I3, pu, q3⟩ => ?_)
  rw [evalPart_none]
  refine wpAny_pure ?_
  have I4 : Inv X pins σ H3 { s3 with heap := s3.heap.push { cls := .type "slice", data := .fields #[vl, vu, .none] } } := I3.kept (t' := s3.toks) fun b ob q => Heap.get?_push_of_some _ q
  obtain ⟨T, id, hT, ht, hg⟩ := hr pins { s3 with heap := s3.heap.push { cls := .type "slice", data := .fields #[vl, vu, .none] } } σ H3 x v vl vu l u s3.heap.objs.size Q I4 r1 (Heap.IsSliceOf.new ..) pl pu q3
  show wpAny (model X.prog X.w) X.A (subscriptTail e (.Slice lo hi none p2) v (.ref s3.heap.objs.size)) (EP X pins σ Q) X.xe { s3 with heap := s3.heap.push { cls := .type "slice", data := .fields #[vl, vu, .none] } }
  exact tail_any (ops := [.ref s3.heap.objs.size, v]) ht hT hg (by with_unfolding_all rfl)
def cutV (xs : List V) (lo hi : Option Int) : List V := (xs.drop (HT.sIx xs.length 0 lo)).take (HT.sIx xs.length xs.length hi - HT.sIx xs.length 0 lo)
theorem cutV_length (xs : List V) (lo hi : Option Int) : (cutV xs lo hi).length ≤ xs.length := by
  unfold cutV
  rw [List.length_take, List.length_drop]
  omega
end
def ixN (n : Nat) (i : Int) : Option Nat := if 0 ≤ i then (if i < n then some i.toNat else none) else if -(n : Int) ≤ i then some (i + n).toNat else none
def atI {α : Type} (xs : List α) (i : Int) : Option α := (ixN xs.length i).bind fun j => xs[j]?
theorem ixN_seq {n : Nat} {i : Int} {j : Nat} (h : ixN n i = some j) : seqIndex? i n = some j ∧ j < n ∧ -(n : Int) ≤ i ∧ i < n := by
  unfold ixN at h
  by_cases h0 : 0 ≤ i
  · rw [if_pos h0] at h
    by_cases h1 : i < n
    · rw [if_pos h1] at h
      have e : i.toNat = j := Option.some.inj h
      exact ⟨by rw [seqIndex_of h0 h1, e], by omega, by omega, h1⟩
    · rw [if_neg h1] at h; cases h
  · rw [if_neg h0] at h
    by_cases h1 : -(n : Int) ≤ i
    · rw [if_pos h1] at h
      have e : (i + n).toNat = j := Option.some.inj h
      exact ⟨by rw [seqIndex_neg (by omega) h1, e], by omega, h1, by omega⟩
    · rw [if_neg h1] at h; cases h
theorem atI_get {α : Type} {xs : List α} {i : Int} {v : α} (h : atI xs i = some v) : ∃ j, seqIndex? i xs.length = some j ∧ xs[j]? = some v ∧ j < xs.length ∧ -(xs.length : Int) ≤ i ∧ i < xs.length := by
  unfold atI at h
  cases e : ixN xs.length i with
  | none => rw [e] at h; cases h
  | some j =>
    rw [e] at h
    obtain ⟨h1, h2, h3, h4⟩ := ixN_seq e
    exact ⟨j, h1, h, h2, h3, h4⟩
theorem atI_nat {α : Type} {xs : List α} {j : Nat} {v : α} (h : xs[j]? = some v) : atI xs (j : Int) = some v := by
  have hj : j < xs.length := (List.getElem?_eq_some_iff.mp h).1
  have e : ixN xs.length (j : Int) = some j := by
    unfold ixN
    rw [if_pos (by omega), if_pos (by omega)]; simp
  unfold atI; rw [e]; exact h
def PlainIx (b : Expr) : Prop := ∀ o i, subscripted b false o i = operate [o, i] (getItem o i)
def IxR (X : Cx) (r : R2) : Prop :=
  ∀ (value slice : Expr) (pins : List (Addr × Obj)) (s : Shared) (σ : St) (H : Hp) (x y : V) (v u : Value) (Q : VK), Inv X pins σ H s → RelV x v → RelV y u → r x y H Q →
    subscripted slice false v u = operate [v, u] (getItem v u) → wpAny (model X.prog X.w) X.A (subscriptTail value slice v u) (EP X pins σ Q) X.xe s
def MtR (X : Cx) (id : String) (r : V → List V → Hp → VK → Prop) : Prop :=
  ∀ (pins : List (Addr × Obj)) (s : Shared) (σ : St) (H : Hp) (x : V) (xs : List V) (v : Value) (us : List Value) (Q : VK), Inv X pins σ H s → RelV x v → Vals xs us → r x xs H Q →
    wpAny (model X.prog X.w) X.A (call (.builtin id) (v :: us)) (EP X pins σ Q) X.xe s
section
variable {X : Cx} {a b : Expr} {ta tb : TE} {pos : Pos}
theorem IxR.or {r r' : R2} (h : IxR X r) (h' : IxR X r') : IxR X (fun x y H Q => r x y H Q ∨ r' x y H Q) := by
  intro value slice pins s σ H x y v u Q I rx ry q hs
  rcases q with q | q
  · exact h value slice pins s σ H x y v u Q I rx ry q hs
  · exact h' value slice pins s σ H x y v u Q I rx ry q hs
theorem MtR.or {id : String} {r r' : V → List V → Hp → VK → Prop} (h : MtR X id r) (h' : MtR X id r') : MtR X id (fun x xs H Q => r x xs H Q ∨ r' x xs H Q) := by
  intro pins s σ H x xs v us Q I rx rs q
  rcases q with q | q
  · exact h pins s σ H x xs v us Q I rx rs q
  · exact h' pins s σ H x xs v us Q I rx rs q
theorem pe_ix {r : R2} (hr : IxR X r) (ha : PE X a ta) (hb : PE X b tb) (hs : PlainIx b) : PE X (.Subscript a b pos) (tOp r ta tb) := by
  intro pins s σ H Q I h
  exact Subscript_ (binT ha hb I h fun v u s2 x y H2 I2 rx ry q => hr a b pins s2 σ H2 x y v u Q I2 rx ry q (hs _ _))
def rIxL (K : PySem.W.Frag) : R2 := fun x y H Q => ∃ p xs i v, x = .ref p ∧ y = .int i ∧ SqL K H p xs ∧ atI xs i = some v ∧ Q v H
def rIxT (K : PySem.W.Frag) : R2 := fun x y H Q => ∃ p xs i v, x = .ref p ∧ y = .int i ∧ SqT K H p xs ∧ atI xs i = some v ∧ Q v H
def rIxS : R2 := fun x y H Q => ∃ z i c, x = .str z ∧ y = .int i ∧ z.length ≤ sizeLine ∧ atI z.cps.toList i = some c ∧ Q (.str ⟨#[c]⟩) H
theorem ix_list : IxR X (rIxL X.K) := by
  intro value slice pins s σ H x y v u Q I rx ry h hs
  obtain ⟨p, xs, i, z, rfl, rfl, hq, he, q⟩ := h
  cases rx
  obtain ⟨t, rfl⟩ := ry
  obtain ⟨its, r, pl, hz⟩ := I.list hq
  obtain ⟨j, h1, h2, h3, h4, h5⟩ := atI_get he
  obtain ⟨w, ew, rw'⟩ := r.get h2
  have hl := r.length
  have hn := line63
  have fin : EP X pins σ Q w s := ⟨z, H, I, rw', q⟩
  by_cases h0 : 0 ≤ i
  · have hj : i.toNat = j := by
      rw [seqIndex_of h0 h5] at h1
      exact Option.some.inj h1
    exact item_listR pl.isList h0 (by omega) (by rw [hj]; simpa using ew) fin hs
  · have hj : (i + (its.toArray.size : Int)).toNat = j := by
      rw [seqIndex_neg (by omega) h4] at h1
      rw [List.size_toArray, ← hl]
      exact Option.some.inj h1
    exact subscriptTail_builtinR (x := w) pl.isList.typeIs slot_list_getitem.lookup
      (wpAny_getItem_list_neg (Q := fun r s' => r = w ∧ EP X pins σ Q r s') pl.isList (by omega) (by rw [List.size_toArray] <;> omega) (by omega) (by rw [hj]; simpa using ew) ⟨rfl, fin⟩) hs
theorem ix_tup : IxR X (rIxT X.K) := by
  intro value slice pins s σ H x y v u Q I rx ry h hs
  obtain ⟨p, xs, i, z, rfl, rfl, hq, he, q⟩ := h
  cases rx
  obtain ⟨t, rfl⟩ := ry
  obtain ⟨its, r, pl, hz⟩ := I.tuple hq
  obtain ⟨j, h1, h2, h3, h4, h5⟩ := atI_get he
  obtain ⟨w, ew, rw'⟩ := r.get h2
  have hl := r.length
  have hn := line63
  have fin : EP X pins σ Q w s := ⟨z, H, I, rw', q⟩
  exact subscriptTail_builtinR (x := w) pl.typeIs slot_tuple_getitem.lookup
    (getItem_tuple (j := j) (Q := fun r s' => r = w ∧ EP X pins σ Q r s') pl (by omega) (by omega) (by rw [List.size_toArray, ← hl]; exact h1) (by simpa using ew) ⟨rfl, fin⟩) hs
theorem ix_str : IxR X rIxS := by
  intro value slice pins s σ H x y v u Q I rx ry h hs
  obtain ⟨z, i, c, rfl, rfl, hz, he, q⟩ := h
  obtain ⟨t, rfl⟩ := rx
  obtain ⟨t', rfl⟩ := ry
  obtain ⟨j, h1, h2, h3, h4, h5⟩ := atI_get he
  have hl : z.cps.toList.length = z.length := by simp [Str.length]
  rw [hl] at h1 h4 h5
  have hn := line63
  exact tail_any (typeIs_str s z t) slot_str_getitem.lookup (getItem_str (c := c) (by
    have e1 : decide (i < -(2 ^ 63 : Int)) = false := decide_eq_false (by omega)
    have e2 : decide (i ≥ 2 ^ 63) = false := decide_eq_false (by omega)
    rw [e1, e2, Bool.or_false]) (by rw [h1]; simpa using h2) ⟨.str ⟨#[c]⟩, H, I.tok _, ⟨_, rfl⟩, q⟩) hs
theorem mapSeq_set (its : List Value) (n j : Nat) (u : Value) : Obj.mapSeq (·.setIfInBounds j u) { cls := .type "list", data := .seq its.toArray n } = { cls := .type "list", data := .seq (its.set j u).toArray n } := by
  simp [Obj.mapSeq]
theorem Inv.lst {pins : List (Addr × Obj)} {σ : St} {H : Hp} {s : Shared} {p : Addr} {xs : List V} (I : Inv X pins σ H s) (h : H p = some (.lst xs)) :
    ∃ (its : List Value) (n : Nat), Vals xs its ∧ s.heap.get? p = some { cls := .type "list", data := .seq its.toArray n } ∧ xs.length ≤ sizeLine := by
  obtain ⟨z, its, n, r, e⟩ := I.hok p _ h
  exact ⟨its, n, r, e, z⟩
theorem Inv.lstUpd {pins : List (Addr × Obj)} {σ : St} {H : Hp} {s : Shared} {p : Addr} {xs ys : List V} {its its' : List Value} {n n' : Nat} {f : Obj → Obj} (I : Inv X pins σ H s) (h : H p = some (.lst xs))
    (ho : s.heap.get? p = some { cls := .type "list", data := .seq its.toArray n }) (hf : f { cls := .type "list", data := .seq its.toArray n } = { cls := .type "list", data := .seq its'.toArray n' }) (r : Vals ys its') (hz : ys.length ≤ sizeLine) (t : Nat) :
    Inv X pins σ (upd H p (.lst ys)) { s with heap := s.heap.update p f, toks := t } := by
  have e : (s.heap.update p f).get? p = some { cls := .type "list", data := .seq its'.toArray n' } := by
    rw [Heap.get?_update_self f ho (by rw [hf] <;> rfl), hf]
  refine I.write (x := p) (e := p) (by rw [h]; trivial) (.inl rfl) (fun b u hb q => (Heap.get?_update_other _ _ (Ne.symm hb)).trans q) ⟨_, e⟩ ?_
  exact ⟨hz, its', n', r, e⟩
def rSetL : V → V → V → Hp → (Hp → Prop) → Prop := fun o i v H Q => ∃ p xs k j, o = .ref p ∧ i = .int k ∧ H p = some (.lst xs) ∧ ixN xs.length k = some j ∧ Q (upd H p (.lst (xs.set j v)))
theorem set_list : PSet X rSetL := by
  intro pins s σ H o i v ov iv u Q I ro ri rv h
  obtain ⟨p, xs, k, j, rfl, rfl, hp, hj, q⟩ := h
  cases ro
  obtain ⟨t, rfl⟩ := ri
  obtain ⟨its, n, r, ho, hz⟩ := I.lst hp
  obtain ⟨h1, h2, h3, h4⟩ := ixN_seq hj
  have hl := r.length
  have hn := line63
  have I' : Inv X pins σ (upd H p (.lst (xs.set j v))) { s with heap := s.heap.update p (Obj.mapSeq (·.setIfInBounds j u)) } :=
    I.lstUpd hp ho (mapSeq_set its n j u) (r.set rv j) (by rw [List.length_set]; exact hz) s.toks
  by_cases h0 : 0 ≤ k
  · have hk : k.toNat = j := by
      rw [seqIndex_of h0 h4] at h1
      exact Option.some.inj h1
    exact PySem.W.ki_setAt ho h0 (by omega) (by rw [List.size_toArray, ← hl]; exact h4) (by rw [hk]; exact ⟨_, I', q⟩)
  · have hk : (k + (its.toArray.size : Int)).toNat = j := by
      rw [seqIndex_neg (by omega) h3] at h1
      rw [List.size_toArray, ← hl]
      exact Option.some.inj h1
    exact PySem.W.ki_setBack ho (by omega) (by rw [List.size_toArray, ← hl]; exact h3) (by omega) (by rw [hk]; exact ⟨_, I', q⟩)
theorem slice_bounds (lo hi : Option Int) (n : Nat) : (sliceBounds lo hi none n).1 = ((HT.sIx n 0 lo : Nat) : Int) ∧ (sliceBounds lo hi none n).2.1 = ((HT.sIx n n hi : Nat) : Int) ∧ (sliceBounds lo hi none n).2.2 = 1 := by
  refine ⟨?_, ?_, rfl⟩
  · cases lo with
    | none => simp [sliceBounds, HT.sIx]
    | some i =>
      simp only [sliceBounds, HT.sIx, Option.getD_none, show (1 : Int) > 0 by decide, if_true]
      by_cases h : i < 0
      · simp only [h, if_true] <;> omega
      · simp only [h, if_false] <;> omega
  · cases hi with
    | none => simp [sliceBounds, HT.sIx]
    | some i =>
      simp only [sliceBounds, HT.sIx, Option.getD_none, show (1 : Int) > 0 by decide, if_true]
      by_cases h : i < 0
      · simp only [h, if_true] <;> omega
      · simp only [h, if_false] <;> omega
theorem slicePick_cut (its : List Value) (lo hi : Option Int) : slicePick its.toArray lo hi none = ((its.drop (HT.sIx its.length 0 lo)).take (HT.sIx its.length its.length hi - HT.sIx its.length 0 lo)).toArray := by
  obtain ⟨h1, h2, h3⟩ := slice_bounds lo hi its.toArray.size
  unfold slicePick
  rw [h1, h2, h3]
  simp only [sliceRange_one, pick_run, List.size_toArray] <;> rfl
def rSlL (K : PySem.W.Frag) : V → Option Int → Option Int → Hp → VK → Prop := fun x lo hi H Q => ∃ a xs, x = .ref a ∧ SqL K H a xs ∧ ∀ p, H p = none → Q (.ref p) (upd H p (.lst (cutV xs lo hi)))
theorem sl_list : SlR X (rSlL X.K) := by
  intro pins s σ H x v vl vu lo hi sl Q I rx hs pl pu h
  obtain ⟨a, xs, rfl, hx, q⟩ := h
  cases rx
  obtain ⟨its, r, ht, hz⟩ := I.list hx
  have hlen := r.length
  refine ⟨"list", _, slot_list_getitem.lookup, ht.isList.typeIs, ?_⟩
  refine wpAny_getItem_list_slice ht.isList hs pl pu .none (by simp) ?_ (by rw [List.size_toArray] <;> omega)
  rw [slicePick_cut, ← hlen]
  refine ⟨.ref s.heap.objs.size, _, I.laid (t' := s.toks) (o := .lst (cutV xs lo hi)) (fun b ob q => Heap.get?_push_of_some _ q) (Nat.le_refl _) ?_, rfl, q _ (I.hok.fresh (Nat.le_refl _))⟩
  exact ⟨Nat.le_trans (cutV_length xs lo hi) hz, _, 0, (r.drop (HT.sIx xs.length 0 lo)).take (HT.sIx xs.length xs.length hi - HT.sIx xs.length 0 lo), Heap.get?_push_size _ rfl⟩
theorem CallR.or {f : Value} {r r' : List V → Hp → VK → Prop} (h : CallR X f r) (h' : CallR X f r') : CallR X f (fun xs H Q => r xs H Q ∨ r' xs H Q) := by
  intro pins s σ H xs us Q I rs q
  rcases q with q | q
  · exact h pins s σ H xs us Q I rs q
  · exact h' pins s σ H xs us Q I rs q
theorem call_list_of : CallR X (.type "list") (fun xs H Q => ∃ p ys, xs = [.ref p] ∧ (SqL X.K H p ys ∨ SqT X.K H p ys) ∧ ∀ l, H l = none → Q (.ref l) (upd H l (.lst ys))) := by
  intro pins s σ H xs us Q I r h
  obtain ⟨p, ys, rfl, hq, q⟩ := h
  obtain ⟨u, rfl, rx⟩ := vals1 r
  cases rx
  have fin : ∀ (its : List Value), Vals ys its → ys.length ≤ sizeLine → ∀ (h' : Heap) (c' : Nat), (∀ b o', s.heap.get? b = some o' → h'.get? b = some o') →
      h'.get? s.heap.objs.size = some { cls := .type "list", dict := none, data := .seq its.toArray c', slots := #[] } → EP X pins σ Q (.ref s.heap.objs.size) { s with heap := h' } := fun its r' hz h' c' kp e =>
    ⟨.ref s.heap.objs.size, _, I.laid (t' := s.toks) kp (Nat.le_refl _) (show ObjOk X.prog X.w _ h' _ (.lst ys) from ⟨hz, its, c', r', e⟩), rfl, q _ (I.hok.fresh (Nat.le_refl _))⟩
  rcases hq with hq | hq
  · obtain ⟨its, r', pl, hz⟩ := I.list hq
    have hlen := r'.length
    obtain ⟨o, ho, hc, n, hd⟩ := pl.isList
    exact call_list_seq p (.inl rfl) ho hc hd (fun h' c' kp e => fin its r' hz h' c' kp e) (by simp only [List.size_toArray] <;> omega)
  · obtain ⟨its, r', pl, hz⟩ := I.tuple hq
    have hlen := r'.length
    obtain ⟨o, ho, hc, n, hd⟩ := pl
    exact call_list_seq p (.inr rfl) ho hc hd (fun h' c' kp e => fin its r' hz h' c' kp e) (by simp only [List.size_toArray] <;> omega)
def tyV (K : PySem.W.Frag) (T : String) (x : V) (H : Hp) : Prop := match x with
  | .str _ => T = "str"
  | .int _ => T = "int"
  | .ref p => (T = "list" ∧ ∃ xs, SqL K H p xs) ∨ (T = "tuple" ∧ ∃ o, K.lookup p = some o ∧ o.cls = .type "tuple" ∧ o.dict = none) ∨
      (T = "dict" ∧ ((∃ kvs, H p = some (.dK kvs)) ∨ ∃ kvs, H p = some (.dT kvs))) ∨ (T = "set" ∧ ∃ S n, H p = some (.set S n))
  | _ => False
theorem tyV_is {pins : List (Addr × Obj)} {σ : St} {H : Hp} {s : Shared} {T : String} {x : V} {v : Value} (I : Inv X pins σ H s) (r : RelV x v) (ty : tyV X.K T x H) :
    s.TypeIs v T ∧ ∀ a, v = .ref a → ∃ ob, s.heap.get? a = some ob ∧ ob.dict = none := by
  cases x with
  | str z =>
    obtain ⟨t, rfl⟩ := r
    cases (show T = "str" from ty)
    exact ⟨typeIs_str s z t, fun _ e => nomatch e⟩
  | int i =>
    obtain ⟨t, rfl⟩ := r
    cases (show T = "int" from ty)
    exact ⟨typeIs_int s i t, fun _ e => nomatch e⟩
  | ref p =>
    cases r
    rcases ty with ⟨rfl, xs, hq⟩ | ⟨rfl, o, hk, hc, hd⟩ | ⟨rfl, hk⟩ | ⟨rfl, S, n, hk⟩
    · obtain ⟨its, _, pl, _⟩ := I.list hq
      refine ⟨pl.isList.typeIs, fun a e => ?_⟩
      cases e
      obtain ⟨o, n, e, c, hd, _⟩ := pl
      exact ⟨o, e, hd⟩
    · refine ⟨⟨o, I.kIn p o hk, hc⟩, fun a e => ?_⟩
      cases e
      exact ⟨o, I.kIn _ o hk, hd⟩
    · have z : ∃ o, s.heap.get? p = some o ∧ o.ExactDict := by
        rcases hk with ⟨kvs, hk⟩ | ⟨kvs, hk⟩
        · obtain ⟨_, _, _, _, o, _, _, e, ex, _⟩ := I.hok p _ hk
          exact ⟨o, e, ex⟩
        · obtain ⟨_, _, _, _, o, _, _, e, ex, _⟩ := I.hok p _ hk
          exact ⟨o, e, ex⟩
      obtain ⟨o, e, ex⟩ := z
      refine ⟨⟨o, e, ex.1⟩, fun a e2 => ?_⟩
      cases e2
      exact ⟨o, e, ex.2.1⟩
    · obtain ⟨o, _, _, _, e, ex, _⟩ := I.hok p _ hk
      refine ⟨⟨o, e, ex.1⟩, fun a e2 => ?_⟩
      cases e2
      exact ⟨o, e, ex.2.1⟩
  | _ => exact False.elim ty
def tBM (K : PySem.W.Frag) (T : String) (r : V → List V → Hp → VK → Prop) (to : TE) (t : TA) : TE := fun σ H Q => to σ H fun x H1 => tyV K T x H1 ∧ t σ H1 fun xs H2 => r x xs H2 Q
variable {o e : Expr} {es : List Expr} {to : TE} {t : TA} {name : Str} {apos cpos : Pos} {T id : String} {r : V → List V → Hp → VK → Prop}
theorem pe_bm (pa : PlainAttrs T) (slot : Slot T name id) (hty : typeOf (.builtin id) = pure (.type "method_descriptor")) (hm : MtR X id r) (ho : PE X o to) (ha : PA X (e :: es) t)
    (hbase : attributeBase o name X.env (eval o X.env) = eval o X.env := by rfl)
    (hfew : ((backTo cpos (starEach (e :: es) X.env)).all (fun x => !x.1) && (backToKw cpos (keywordEach [] X.env)).all (fun x => x.1.isSome)
      && decide ((e :: es).length + ([] : List Keyword).length + (if ([] : List Keyword).isEmpty then 0 else 1) < 30)) = true := by rfl)
    (hline : (apos.endLine == cpos.line) = true := by rfl) (hs : starEach (e :: es) X.env = (false, eval e X.env) :: starEach es X.env := by rfl) (hplain : (backTo cpos (starEach es X.env)).any (·.1) = false := by rfl) :
    PE X (.Call (.Attribute o name apos) (e :: es) [] cpos) (tBM X.K T r to t) := by
  intro pins s σ H Q I h
  refine wpAny_Call_method_late hbase hfew hline rfl (thn (ho pins s σ H _ I h) fun v s1 ⟨x, H1, I1, r1, ty, q1⟩ => ?_)
  obtain ⟨h1, h2⟩ := tyV_is I1 r1 ty
  refine ⟨T, id, pa, slot, hty, h1, h2, ?_⟩
  have hA := ha cpos pins s1 σ H1 _ I1 q1
  rw [hs] at hA ⊢
  refine Calls.callWith_builtin (by show (false || (backTo cpos (starEach es X.env)).any (·.1)) = false; rw [hplain] <;> rfl) (Calls.evalArgs_plain ?_)
  exact thn hA fun us s2 ⟨vs, H2, I2, r2, q2⟩ => hm pins s2 σ H2 x vs v us Q I2 r1 r2 q2
end
def MtM (X : Cx) (id : String) (r : V → List V → Hp → VK → Prop) : Prop :=
  ∀ (pins : List (Addr × Obj)) (s : Shared) (σ : St) (H : Hp) (x : V) (xs : List V) (v : Value) (us : List Value) (Q : VK), Inv X pins σ H s → RelV x v → Vals xs us → r x xs H Q →
    wpAny (model X.prog X.w) X.A (call (.builtin id) (v :: us)) (EP X pins σ Q) X.xe s
theorem Vals.one : ∀ {x : V} {us : List Value}, Vals [x] us → ∃ u, us = [u] ∧ RelV x u
  | _, _, .cons r .nil => ⟨_, rfl, r⟩
theorem Vals.two : ∀ {x y : V} {us : List Value}, Vals [x, y] us → ∃ u v, us = [u, v] ∧ RelV x u ∧ RelV y v
  | _, _, _, .cons r (.cons q .nil) => ⟨_, _, rfl, r, q⟩
theorem Vals.zero : ∀ {us : List Value}, Vals [] us → us = []
  | _, .nil => rfl
theorem Vals.eraseIdx : ∀ {xs : List V} {us : List Value} (i : Nat), Vals xs us → Vals (xs.eraseIdx i) (us.eraseIdx i)
  | _, _, _, .nil => .nil
  | _, _, 0, .cons _ t => t
  | _, _, i + 1, .cons r t => .cons r (Vals.eraseIdx i t)
theorem len_erase {α : Type} : ∀ (l : List α) (i : Nat), (l.eraseIdx i).length ≤ l.length
  | [], _ => Nat.le_refl _
  | _ :: _, 0 => Nat.le_succ _
  | _ :: r, i + 1 => Nat.succ_le_succ (len_erase r i)
section
variable {X : Cx} {pins : List (Addr × Obj)} {σ : St} {H : Hp} {s : Shared} {l b : Addr} {xs ys zs : List V}
theorem Inv.lset {its its' : List Value} {n : Nat} {f : Array Value → Array Value} {t' : Nat} (I : Inv X pins σ H s) (hH : H l = some (.lst xs))
    (e : s.heap.get? l = some { cls := .type "list", data := .seq its.toArray n }) (hf : f its.toArray = its'.toArray) (hv : Vals ys its') (hz : ys.length ≤ sizeLine) :
    Inv X pins σ (upd H l (.lst ys)) { s with heap := s.heap.update l (Obj.mapSeq f), toks := t' } := by
  have q := PySem.IsL.update e f
  rw [hf] at q
  refine I.write (x := l) (e := l) (by rw [hH]; exact trivial) (.inl rfl) (fun b' u hb hu => (Heap.get?_update_other s.heap (Obj.mapSeq f) (Ne.symm hb)).trans hu) ⟨_, q⟩ ?_
  exact ⟨hz, its', _, hv, q⟩
theorem Inv.lnew {its : List Value} {t' : Nat} (I : Inv X pins σ H s) (hv : Vals ys its) (hz : ys.length ≤ sizeLine) :
    Inv X pins σ (upd H s.heap.objs.size (.lst ys)) { s with heap := s.heap.push { cls := .type "list", data := .seq its.toArray }, toks := t' } :=
  I.laid (fun _ _ q => Heap.get?_push_of_some _ q) (Nat.le_refl _) ⟨hz, its, 0, hv, Heap.get?_push_size _ rfl⟩
theorem Inv.fresh (I : Inv X pins σ H s) : H s.heap.objs.size = none := I.hok.fresh (Nat.le_refl _)
theorem Inv.lstM (I : Inv X pins σ H s) (hH : H l = some (.lst xs)) : xs.length ≤ sizeLine ∧ ∃ (its : List Value) (n : Nat), Vals xs its ∧ xs.length = its.length ∧ s.heap.get? l = some { cls := .type "list", data := .seq its.toArray n } := by
  obtain ⟨z, its, n, r, e⟩ := I.hok l _ hH
  exact ⟨z, its, n, r, r.length, e⟩
theorem notLongL {n : Nat} (h : n ≤ sizeLine) : Builtin.List.listTooLong n = false := by
  unfold Builtin.List.listTooLong
  exact decide_eq_false (by omega)
end
section
variable {X : Cx}
def rAppend : V → List V → Hp → VK → Prop := fun x vs H Q => ∃ l xs y, x = .ref l ∧ vs = [y] ∧ H l = some (.lst xs) ∧ xs.length < sizeLine ∧ Q .non (upd H l (.lst (xs ++ [y])))
theorem mt_append : MtM X "list.append" rAppend := by
  intro pins s σ H x vs v us Q I rx rv h
  obtain ⟨l, xs, y, rfl, rfl, hH, hz, q⟩ := h
  cases rx
  obtain ⟨u, rfl, ru⟩ := rv.one
  obtain ⟨z, its, n, r, hl, e⟩ := I.lstM hH
  refine call_meets F.slot_list_append ⟨_, e, rfl⟩ F.entry_list_append (F.args_list_append_2 _ _) (PySem.list_append l its.toArray n u (by rw [List.size_toArray]; omega)) ⟨e, ?_⟩
  refine ⟨.non, _, I.lset (its' := its ++ [u]) hH e (by simp) (r.append (.cons ru .nil)) ?_, rfl, q⟩
  rw [List.length_append, List.length_singleton]
  omega
def rExtend : V → List V → Hp → VK → Prop := fun x vs H Q => ∃ l b xs zs, x = .ref l ∧ vs = [.ref b] ∧ H l = some (.lst xs) ∧ H b = some (.lst zs) ∧ xs.length + zs.length ≤ sizeLine ∧ Q .non (upd H l (.lst (xs ++ zs)))
theorem mt_extend : MtM X "list.extend" rExtend := by
  intro pins s σ H x vs v us Q I rx rv h
  obtain ⟨l, b, xs, zs, rfl, rfl, hH, hB, hz, q⟩ := h
  cases rx
  obtain ⟨u, rfl, ru⟩ := rv.one
  cases ru
  obtain ⟨z, its, n, r, hl, e⟩ := I.lstM hH
  obtain ⟨z2, its2, n2, r2, hl2, e2⟩ := I.lstM hB
  have hsz : its.toArray.size + its2.toArray.size ≤ sizeLine := by rw [List.size_toArray, List.size_toArray]; omega
  have hlong : ¬ (!its.toArray.isEmpty && Builtin.List.listTooLong (its.toArray.size + its2.toArray.size)) = true := by
    rw [notLongL hsz, Bool.and_false]
    exact Bool.false_ne_true
  refine call_meets F.slot_list_extend ⟨_, e, rfl⟩ F.entry_list_extend (F.args_list_extend_2 _ _)
    (AutoSeq1.list_extend_list_list_0 l its.toArray n b its2.toArray n2 hlong (by rw [List.size_toArray]; omega) (by omega)) ⟨e, e2, ?_⟩
  refine ⟨.non, _, I.lset (its' := its ++ its2) hH e (by simp) (r.append r2) ?_, rfl, q⟩
  rw [List.length_append]
  omega
def rPopAt : V → List V → Hp → VK → Prop := fun x vs H Q => ∃ l xs i k y, x = .ref l ∧ vs = [.int i] ∧ H l = some (.lst xs) ∧ -(2 ^ 63) ≤ i ∧ i < 2 ^ 63 ∧ seqIndex? i xs.length = some k ∧ xs[k]? = some y ∧ Q y (upd H l (.lst (xs.eraseIdx k)))
theorem mt_popAt : MtM X "list.pop" rPopAt := by
  intro pins s σ H x vs v us Q I rx rv h
  obtain ⟨l, xs, i, k, y, rfl, rfl, hH, h1, h2, hk, hy, q⟩ := h
  cases rx
  obtain ⟨u, rfl, ru⟩ := rv.one
  obtain ⟨t, rfl⟩ := ru
  obtain ⟨z, its, n, r, hl, e⟩ := I.lstM hH
  obtain ⟨w, hw, rw'⟩ := r.get hy
  refine call_meets F.slot_list_pop ⟨_, e, rfl⟩ F.entry_list_pop (F.args_list_pop_2 _ _)
    (MeetsSeq.list_pop_at l its.toArray n i t k w (fitsIndex_both h1 h2) (by rw [List.size_toArray, ← hl]; exact hk) (by rw [← Array.getElem?_toList]; exact hw) (by rw [List.size_toArray]; omega)) ⟨e, ?_⟩
  refine ⟨y, _, I.lset (its' := its.eraseIdx k) hH e ?_ (r.eraseIdx k) ?_, rw', q⟩
  · show its.toArray.eraseIdxIfInBounds k = (its.eraseIdx k).toArray
    rw [List.eraseIdxIfInBounds_toArray]
  · have := len_erase xs k
    omega
def rCat : R2 := fun x y H Q => ∃ l b xs zs, x = .ref l ∧ y = .ref b ∧ H l = some (.lst xs) ∧ H b = some (.lst zs) ∧ xs.length + zs.length ≤ sizeLine ∧ ∀ p, H p = none → Q (.ref p) (upd H p (.lst (xs ++ zs)))
theorem op_cat : OpR X (binaryOp .Add) rCat := by
  intro pins s σ H x y v u Q I rx ry h
  obtain ⟨l, b, xs, zs, rfl, rfl, hH, hB, hz, q⟩ := h
  cases rx
  cases ry
  obtain ⟨z, its, n, r, hl, e⟩ := I.lstM hH
  obtain ⟨z2, its2, n2, r2, hl2, e2⟩ := I.lstM hB
  refine PySem.P.add_list e e2 ?_ (by rw [List.size_toArray, List.size_toArray]; omega)
  have ea : its.toArray ++ its2.toArray = (its ++ its2).toArray := by simp
  rw [ea]
  exact ⟨.ref _, _, I.lnew (t' := s.toks) (r.append r2) (by rw [List.length_append]; omega), rfl, q _ I.fresh⟩
end
end L2
namespace Att
open PySem PySem.W PySem.Calls PyProof.Rows
theorem ints_of_wellAll {P : Params} {h : Heap} : ∀ (ns : List Int) (vs : List Value), WellAll P h vs (ns.map WData.int) → IntsAre vs ns := by
  intro ns
  induction ns with
  | nil =>
    intro vs w
    rw [List.map_nil] at w
    cases w
    exact .nil
  | cons n ns ih =>
    intro vs w
    rw [List.map_cons] at w
    cases w with
    | cons a b =>
      cases a
      exact .cons _ _ (ih _ b)
theorem script_of {l : OpenLaw} {n : Nat} (hn : l.most = some n) {P : Params} {h : Heap} {args : List WData} {vals : List Value}
    (hpre : l.row.toRowW.claim.pre args = true) (hwl : WellAll P h vals args) :
    ∃ a vs ns, vals = [Value.ref a] ∧ args = [WData.list (ns.map WData.int)] ∧ h.get? a = some { cls := .type "list", data := .seq vs.toArray } ∧ IntsAre vs ns ∧ ns.length ≤ n := by
  have hsh : WShape.hasAll [] args [.list .int] = true := (pre_splitW hpre).1
  have hc : l.pre.holds [] { args := args } = true := (pre_splitW hpre).2
  obtain ⟨d, r, rfl, h1, h2⟩ := hasAllW_cons hsh
  obtain rfl := hasAllW_nil h2
  obtain ⟨xs, rfl, h3⟩ := hasW_list h1
  obtain ⟨ns, rfl⟩ := items_int h3
  have hlen : ns.length ≤ n := by
    unfold OpenLaw.pre at hc
    have h4 : (WTm.not (.lt (.lit (.int (n : Int))) (.len (.arg 0)))).holds [] { args := [.list (ns.map .int)] } = true := by
      have h4 := (holds_andW hc).1
      rw [hn] at h4
      exact h4
    have h5 := condW_of h4 (w_not (w_lt w_lit (w_len_list (w_arg rfl))))
    rw [List.length_map] at h5
    refine Nat.le_of_not_lt fun q => ?_
    have q' : (n : Int) < ((ns.length : Nat) : Int) := by omega
    first
      | (rw [decide_eq_true q'] at h5; exact absurd h5 (by decide))
      | (simp at h5; omega)
  cases hwl with
  | cons w1 w2 =>
    cases w2
    cases w1 with
    | list ho hall => exact ⟨_, _, ns, rfl, rfl, ho, ints_of_wellAll ns _ hall, hlen⟩
theorem post_true (l : OpenLaw) (args : List WData) : l.row.toRowW.claim.post args (.bool true) args = true :=
  postW_of (r := l.row.toRowW) (X := (true == true))
    (show WShape.has [] (.bool true) .bool = true by first | rfl | decide | simp [WShape.has, WShape.arms, WShape.armsAll])
    (show (WTm.eq .res (.lit (.bool true))).value [] { args := args, res := some (.bool true), after := args } = some (.bool (true == true)) from w_eq_bool (w_res rfl) w_lit) rfl
theorem attach_call {l : OpenLaw} {n : Nat} {q : Program} {loose : List Str} {XP : (Str → Option Value) → Heap → Prop} {YP : World → Heap → Prop} {d : DefRec}
    (hn : l.most = some n) (hdf : d.params.defaults = [])
    (call : ∀ (w : World) (s₀ s₁ : Shared) (mg mb : Str → Option Value) (fa : Addr) (o : Obj) (pm cd doc : Value) (a : Addr) (vs : List Value) (ns : List Int),
      Ground q loose [] XP w s₀ mg mb s₁.heap → YP w s₁.heap →
      s₁.heap.get? fa = some o → o.data = .func (docDef d.name d.params d.body d.scope pm cd doc) → s₁.heap.CodeRec cd d.name → mg d.name = some (.ref fa) →
      s₁.heap.get? a = some { cls := .type "list", data := .seq vs.toArray } → IntsAre vs ns → ns.length ≤ n → s₁.gens = #[] →
      codeAny (model l.prog w) callerA (.call (.ref fa) ⟨[.ref a], []⟩) (fun r s' => r = .ok (.ret (.bool true)) ∧ OldK s₁.heap s'.heap ∧ s'.os = s₁.os ∧ AllBare s'.gens) s₁) :
    WalkO q loose XP YP l.row.toRowW d [] (fun f vs => PySem.call f vs) := by
  intro w s₀ s₁ mg mb G Y fa o pm cd doc dV kV ho hd hcd hD hmg hg args vals as hpre hlay hrd hwl hlo
  obtain rfl : dV = .none := Dflts.none hD hdf
  obtain rfl : kV = .none := Dflts.noKw hD
  obtain ⟨a, vs, ns, rfl, rfl, hobj, hints, hlen⟩ := script_of hn hpre hwl
  refine enter_call (codeAny_mono (call w s₀ s₁ mg mb fa o pm cd doc a vs ns G Y ho (fd_plain hd) hcd hmg hobj hints hlen hg) fun r s' hq => ?_)
  obtain ⟨rfl, h2, h3, h4⟩ := hq
  exact ⟨.inl ⟨.bool true, .bool true, [], rfl, fun _ => rfl, .bool true, post_true l _, fun _ => ⟨List.Pairwise.nil, fun _ hm => (nomatch hm)⟩⟩, h2, h3, h4⟩
end Att
namespace L2
open PySem PySem.Spec PyProof.Rows
theorem vals_ints : ∀ {vs : List Value} {ns : List Int}, IntsAre vs ns → Vals (ns.map V.int) vs
  | _, _, .nil => .nil
  | _, _, .cons n t h => .cons ⟨t, rfl⟩ (vals_ints h)
def Only (H : Hp) : Prop := ∀ b, H b = none ∨ ∃ o xs, H b = some (.frz o (.lst xs))
theorem law_call {P : Program} {w : World} {K : PySem.W.Frag} {mg mb : Str → Option Value} {CX : CXT} {k : Nat} {fa a : Addr} {fd : FuncData} {x : Str} {sp : Sp} {s₁ : Shared} {vs : List Value} {ns : List Int}
    (KX : K.In s₁.heap) (hns : s₁.heap.Ns mainGlobals mg) (hb : s₁.heap.Ns builtinsNs mb) (hbb : ∀ x : Str, x ≠ "__name__" → mb x = bootBuiltins x) (hlim : s₁.heap.NoLimit) (hg : s₁.gens = #[])
    (ha : s₁.heap.get? a = some { cls := .type "list", data := .seq vs.toArray }) (hi : IntsAre vs ns) (hl : ns.length ≤ sizeLine) (hr : Room k callerA)
    (F : ∀ base : Heap, K.In base → base.Ns mainGlobals mg → FnOk P w K mg base CX k fa fd [x] sp) (hbind : ∀ (s : Shared) (u : Value), BindsTo s fd ⟨[u], []⟩ [(x, u)])
    (hsp : ∀ H : Hp, Only H → SqL K H a (ns.map V.int) → sp [.ref a] H (fun v _ => v = .bl true) fun _ _ _ => False)
    (hCX : ∀ H e s', CX [] H s₁ (fun _ _ _ => False) e s' → False) :
    codeAny (model P w) callerA (.call (.ref fa) ⟨[.ref a], []⟩) (fun r s' => r = .ok (.ret (.bool true)) ∧ OldK s₁.heap s'.heap ∧ s'.os = s₁.os ∧ AllBare s'.gens) s₁ := by
  have rv := vals_ints hi
  have lenV := hi.length
  -- from an abstract heap in which nothing but the script may be tracked
  have core : ∀ H : Hp, Only H → SqL K H a (ns.map V.int) → HOk P w H s₁.heap → (∀ b, H b ≠ none → b = a) → (H a ≠ none → K.lookup a = none) →
      codeAny (model P w) callerA (.call (.ref fa) ⟨[.ref a], []⟩) (fun r s' => r = .ok (.ret (.bool true)) ∧ OldK s₁.heap s'.heap ∧ s'.os = s₁.os ∧ AllBare s'.gens) s₁ := by
    intro H hO hS hok hA hK
    have base_of : ∀ {b : Addr} {o : Obj}, s₁.heap.get? b = some o → H b = none → (hidT s₁.heap H).get? b = some o := fun e n => hidT_get e n
    have noA : ∀ {b : Addr} {o : Obj} {es : Array DictEntry} {ep : Nat}, s₁.heap.get? b = some o → o.data = .dict es ep → H b = none := fun {b o es ep} e d => by
      cases q : H b with
      | none => rfl
      | some u =>
        have e' : b = a := hA b (by rw [q]; simp)
        subst e'
        rw [ha] at e; cases e
        have d' : Data.seq vs.toArray _ = Data.dict es ep := d
        cases d'
    have nsK : ∀ {b : Addr} {m : Str → Option Value}, s₁.heap.Ns b m → (hidT s₁.heap H).Ns b m := fun {b m} ⟨o, es, ep, e, d, r⟩ => ⟨o, es, ep, base_of e (noA e d), d, r⟩
    have hKb : K.In (hidT s₁.heap H) := fun b o e => base_of (KX b o e) (by
      cases q : H b with
      | none => rfl
      | some u =>
        have e' : b = a := hA b (by rw [q]; simp)
        subst e'
        rw [hK (by rw [q]; simp)] at e; cases e)
    have hM : Mod K mg (hidT s₁.heap H) := ⟨hKb, nsK hns, ⟨mb, nsK hb, hbb⟩, let ⟨mc, h1, h2⟩ := hlim; ⟨mc, nsK h1, h2⟩⟩
    have e0 : Env0 P w K mg (hidT s₁.heap H) callerA [] s₁ H := ⟨rfl, hM, fun b o e => of_hidT e, Nat.le_of_eq (hidT_size _ _), trivial, fun b hb => absurd (show b ∈ ([] : List Addr) from hb) (by simp), hok, .of_eq hg⟩
    refine codeAny_mono ((F _ hKb (nsK hns)).run callerA [] s₁ H ⟨[.ref a], []⟩ [.ref a] [.ref a] _ _ hr e0 (hbind s₁ (.ref a)) (.cons rfl .nil) (hsp H hO hS)) fun r s' h => ?_
    cases r with
    | error e => exact (hCX H e s' h).elim
    | ok fl =>
      cases fl with
      | next => exact False.elim h
      | brk => exact False.elim h
      | cont => exact False.elim h
      | ret u =>
        obtain ⟨v, H', os, bare, un, hok', r', q⟩ := h
        have q' : v = .bl true := q
        subst q'
        obtain rfl : u = Value.bool true := r'
        refine ⟨rfl, OldK.of_keep fun b o e => ?_, os, bare⟩
        cases q : H b with
        | none => exact un.keep b o e q (by intro z; exact absurd (show b ∈ ([] : List Addr) from z) (by simp)) (by simp)
        | some u =>
          rcases hO b with z | ⟨ob, xs, z⟩
          · rw [q] at z; cases z
          · have z2 := un.frzs b ob _ z
            obtain ⟨e1, _⟩ := hok b _ z
            obtain ⟨e2, _⟩ := hok' b _ z2
            rw [e] at e1; cases e1
            exact e2
  cases hk : K.lookup a with
  | some o =>
    -- the script is one of the module's own objects
    have e := KX a o hk
    rw [ha] at e
    cases e
    refine core (fun _ => none) (fun _ => .inl rfl) (.inr ⟨_, vs.toArray, _, hk, rfl, rfl, rfl, by rw [List.size_toArray, lenV]; exact hl, by simpa using rv⟩) (fun b u z => by have z' : (none : Option HO) = some u := z; cases z') (fun b z => absurd rfl z) fun z => absurd rfl z
  | none =>
    refine core (fun b => if b = a then some (.frz { cls := .type "list", data := .seq vs.toArray } (.lst (ns.map V.int))) else none) (fun b => ?_) (.inl (.inr ⟨{ cls := .type "list", data := .seq vs.toArray }, if_pos rfl⟩)) (fun b u z => ?_) (fun b z => ?_) fun _ => hk
    · by_cases hb : b = a
      · exact .inr ⟨_, _, if_pos hb⟩
      · exact .inl (if_neg hb)
    · by_cases hb : b = a
      · have z' := (if_pos hb).symm.trans z
        cases z'
        subst hb
        exact ⟨ha, by rw [List.length_map]; exact hl, vs, _, rv, ha⟩
      · have z' := (if_neg hb).symm.trans z
        cases z'
    · by_cases hb : b = a
      · exact hb
      · exact absurd (if_neg hb) z
theorem walk_of {l : PySem.W.OpenLaw} {n k : Nat} {q : Program} {loose : List Str} {XP : (Str → Option Value) → Heap → Prop} {YP : World → Heap → Prop} {d : DefRec} {K : Params → PySem.W.Frag} {CX : World → CXT} {sp : World → Sp} {x : Str}
    (hn : l.most = some n) (hn2 : n ≤ sizeLine) (hdf : d.params.defaults = []) (hr : Room k callerA)
    (hY : ∀ (w : World) (h : Heap), YP w h → (K w.params).In h)
    (F : ∀ (w : World) (mg : Str → Option Value) (fa : Addr) (h : Heap), (K w.params).In h → h.Ns mainGlobals mg → mg d.name = some (.ref fa) →
      ∃ fd : FuncData, (∀ (s : Shared) (u : Value), BindsTo s fd ⟨[u], []⟩ [(x, u)]) ∧
        ∀ base : Heap, (K w.params).In base → base.Ns mainGlobals mg → FnOk l.prog w (K w.params) mg base (CX w) k fa fd [x] (sp w))
    (hsp : ∀ (w : World) (H : Hp) (a : Addr) (ns : List Int), ns.length ≤ n → Only H → SqL (K w.params) H a (ns.map V.int) → sp w [.ref a] H (fun v _ => v = .bl true) fun _ _ _ => False)
    (hCX : ∀ (w : World) (H : Hp) (s : Shared) (e : Value) (s' : Shared), CX w [] H s (fun _ _ _ => False) e s' → False) :
    PySem.W.WalkO q loose XP YP l.row.toRowW d [] (fun f vs => PySem.call f vs) := by
  refine Att.attach_call hn hdf fun w s₀ s₁ mg mb fa o pm cd doc a vs ns G Y ho hd hcd hmg hobj hints hlen hg => ?_
  have KX := hY w _ Y
  obtain ⟨fd, hb, hF⟩ := F w mg fa _ KX G.T.g hmg
  exact law_call KX G.T.g G.T.b G.T.builtins G.T.nolimit hg hobj hints (Nat.le_trans hlen hn2) hr hF hb (fun H hO hS => hsp w H a ns hlen hO hS) fun H e s' => hCX w H s₁ e s'
def inClass (s : Stmt) (j : Nat) : Stmt := match s with
  | .ClassDef _ _ _ body _ _ _ _ _ _ _ => body.getD j (.Pass ⟨0, 0, 0, 0⟩)
  | _ => .Pass ⟨0, 0, 0, 0⟩
def defArgs (s : Stmt) : Arguments := match s with
  | .FunctionDef _ a _ _ _ _ _ _ _ _ => a
  | _ => { posonlyargs := [], args := [], vararg := none, kwonlyargs := [], kw_defaults := [], kwarg := none, defaults := [] }
def defBody (s : Stmt) : List Stmt := match s with
  | .FunctionDef _ _ b _ _ _ _ _ _ _ => b
  | _ => []
def defScope (s : Stmt) : Scope := match s with
  | .FunctionDef _ _ _ _ _ _ sc _ _ _ => sc
  | _ => { kind := .function, names := [], isGenerator := false, isCoroutine := false }
abbrev CX0 : CXT := fun _ _ _ _ _ _ => False
abbrev E0 : XK := fun _ _ _ => False
theorem pass0 {X : Cx} : Passes CX0 X E0 := fun _ _ _ _ _ _ _ h => h.elim
structure Fun (K : PySem.W.Frag) (x qual : Str) (st : Stmt) (f : Addr) (fd : FuncData) : Prop where
  ex : ∃ (oc : Value) (od : Option Addr) (kV doc pm : Value) (an : Option Addr) (cdv ct : Value) (osl : Array (Option Value)),
    fd = PySem.W.fnOf x qual (defArgs st) (defBody st) (defScope st) .none kV doc pm an cdv ct ∧ K.lookup f = some ⟨oc, od, .func fd, osl⟩ ∧ PySem.W.codeIn K cdv qual = true
  kp : PySem.W.keepIn K (.ref f) = true
section
variable {P : Program} {w : World} {K : PySem.W.Frag} {mg : Str → Option Value} {base : Heap}
theorem Fun.ok {x qual : Str} {st : Stmt} {f : Addr} {fd : FuncData} {N ps : List Str} {k : Nat} {sp : Sp} (F : Fun K x qual st f fd) (S : FnScope N ps (defScope st)) (len : ∀ vs H Q E, sp vs H Q E → vs.length = ps.length)
    (hbody : ∀ (cdv : Value) (A : Around) (outer : List Env) (s : Shared) (H : Hp) (vs : List V) (Q : VK) (E : XK), Room k (A.deeper (envOfC qual (defScope st) s.heap.objs.size f cdv)) → sp vs H Q E →
      ∃ t, PSs (cxOf CX0 P w K mg base N qual (defScope st) f cdv A outer s H E).nox (defBody st) t ∧ t { nx := fun _ H' => Q .non H', rt := Q } (start N vs) H) : FnOk P w K mg base CX0 (k + 1) f fd ps sp := by
  obtain ⟨oc, od, kV, doc, pm, an, cdv, ct, osl, rfl, lk, hcd⟩ := F.ex
  refine fn_of lk hcd S len fun A outer s H vs Q E hr hsp => ?_
  obtain ⟨t, h, q⟩ := hbody cdv A outer s H vs Q E hr hsp
  exact ⟨t, h.nox, q⟩
theorem Fun.binds {x qual : Str} {st : Stmt} {f : Addr} {fd : FuncData} {ps : List Str} (F : Fun K x qual st f fd)
    (h : ∀ (kV doc pm : Value) (an : Option Addr) (cdv ct : Value) (us : List Value), us.length = ps.length → bindArgs (PySem.W.fnOf x qual (defArgs st) (defBody st) (defScope st) .none kV doc pm an cdv ct) ⟨us, []⟩ = pure (ps.zip us)) : Binds K fd ps [] := by
  obtain ⟨oc, od, kV, doc, pm, an, cdv, ct, osl, rfl, lk, hcd⟩ := F.ex
  exact .all (h kV doc pm an cdv ct)
theorem fun_mk {x qual : Str} {st : Stmt} {f : Addr} {oc : Value} {od an : Option Addr} {osl : Array (Option Value)} {kV doc pm cdv ct : Value} (l : K.lookup f = some ⟨oc, od, .func (PySem.W.fnOf x qual (defArgs st) (defBody st) (defScope st) .none kV doc pm an cdv ct), osl⟩)
    (c : PySem.W.codeIn K cdv qual = true) (k : PySem.W.keepIn K (.ref f) = true) : Fun K x qual st f (PySem.W.fnOf x qual (defArgs st) (defBody st) (defScope st) .none kV doc pm an cdv ct) := ⟨⟨oc, od, kV, doc, pm, an, cdv, ct, osl, rfl, l, c⟩, k⟩
end
theorem hu_of {A : Around} {k : Nat} (hr : Room k A) : A.units + 1 < cLine := Nat.lt_of_le_of_lt (Nat.add_le_add_left (by decide : 1 ≤ 64) _) hr.units
section
variable {X : Cx}
theorem pv (i : Nat) {x : Str} {pos : Pos} (hN : X.N[i]? = some x := by rfl) (hv : Vis X.env.scope x := by first | exact Or.inl rfl | exact Or.inr (Or.inl rfl) | exact Or.inr (Or.inr rfl)) (hd : (x == ("__debug__" : Str)) = false := by decide)
    (hcd : (x == ("__classdict__" : Str)) = false := by decide) : PE X (.Name x pos) (tVar i) := pe_var hN hv hd hcd
end
theorem iteF {A B : Prop} (h : B) : if false = true then A else B := by
  rw [if_neg Bool.false_ne_true]
  exact h
theorem iteT {A B : Prop} (h : A) : if true = true then A else B := by
  rw [if_pos rfl]
  exact h
def Same (H H' : Hp) : Prop := ∀ b o, H b = some o → H' b = some o
theorem Same.trans {H H1 H2 : Hp} (a : Same H H1) (b : Same H1 H2) : Same H H2 := fun c o h => b c o (a c o h)
theorem Same.free {H H' : Hp} (e : Same H H') {l : Addr} (h : H' l = Option.none) : H l = Option.none := by
  cases q : H l with
  | none => rfl
  | some o =>
    rw [e l o q] at h
    cases h
section
variable {κ : Type} [DecidableEq κ]
def valV (kvs : List (κ × V)) (k : κ) : Option V := (kvs.find? fun kv => decide (kv.1 = k)).map (·.2)
def putK (kvs : List (κ × V)) (k : κ) (v : V) : List (κ × V) :=
  if (kvs.any fun kv => decide (kv.1 = k)) = true then kvs.map (fun kv => if kv.1 = k then (kv.1, v) else kv) else kvs ++ [(k, v)]
def dropK (kvs : List (κ × V)) (k : κ) : List (κ × V) := kvs.filter fun kv => decide (kv.1 ≠ k)
theorem valV_pos {p : κ × V} {r : List (κ × V)} {k : κ} (e : p.1 = k) : valV (p :: r) k = some p.2 := by simp [valV, List.find?_cons, e]
theorem valV_neg {p : κ × V} {r : List (κ × V)} {k : κ} (e : ¬ p.1 = k) : valV (p :: r) k = valV r k := by simp [valV, List.find?_cons, e]
theorem valV_any (k : κ) : ∀ kvs : List (κ × V), (kvs.any fun kv => decide (kv.1 = k)) = (valV kvs k).isSome
  | [] => rfl
  | p :: r => by
    rw [List.any_cons]
    by_cases e : p.1 = k
    · simp only [valV_pos e, decide_eq_true e, Bool.true_or, Option.isSome_some]
    · rw [valV_neg e, decide_eq_false e, Bool.false_or]; exact valV_any k r
theorem length_putK (kvs : List (κ × V)) (k : κ) (v : V) : (putK kvs k v).length ≤ kvs.length + 1 := by
  unfold putK
  split
  · rw [List.length_map]; omega
  · rw [List.length_append, List.length_cons, List.length_nil]; omega
theorem RelO.isSome_eq {o : Option V} {u : Option Value} (r : RelO o u) : o.isSome = u.isSome := by
  cases o with
  | none => cases u with
    | none => rfl
    | some _ => exact (show False from r).elim
  | some _ => cases u with
    | none => exact (show False from r).elim
    | some _ => rfl
theorem RelO.getD {o : Option V} {u : Option Value} {d : V} {d' : Value} (r : RelO o u) (rd : RelV d d') : RelV (o.getD d) (u.getD d') := by
  cases o with
  | none => cases u with
    | none => exact rd
    | some _ => exact (show False from r).elim
  | some _ => cases u with
    | none => exact (show False from r).elim
    | some _ => exact r
theorem KV.val {kvs : List (κ × V)} {vs : List (κ × Value)} (r : KV kvs vs) (k : κ) : RelO (valV kvs k) (valueAt vs k) := by
  unfold KV at r
  induction r with
  | nil => exact True.intro
  | @cons p q ps qs h t ih =>
    obtain ⟨h1, h2⟩ := h
    by_cases e : p.1 = k
    · have e' : q.1 = k := h1.symm.trans e
      have b : valueAt (q :: qs) k = some q.2 := by simp [valueAt, List.find?_cons, e']
      rw [valV_pos e, b]; exact h2
    · have e' : ¬ q.1 = k := fun z => e (h1.trans z)
      have b : valueAt (q :: qs) k = valueAt qs k := by simp [valueAt, List.find?_cons, e']
      rw [valV_neg e, b]; exact ih
theorem KV.any {kvs : List (κ × V)} {vs : List (κ × Value)} (r : KV kvs vs) (k : κ) : (kvs.any fun kv => decide (kv.1 = k)) = vs.any fun kv => decide (kv.1 = k) := by
  unfold KV at r
  induction r with
  | nil => rfl
  | cons h t ih => rw [List.any_cons, List.any_cons, ih, h.1]
theorem KV.repl {kvs : List (κ × V)} {vs : List (κ × Value)} (r : KV kvs vs) (k : κ) {y : V} {u : Value} (ry : RelV y u) :
    KV (kvs.map fun kv => if kv.1 = k then (kv.1, y) else kv) (vs.map fun kv => if kv.1 = k then (kv.1, u) else kv) := by
  unfold KV at r ⊢
  induction r with
  | nil => exact .nil
  | @cons p q ps qs h t ih =>
    rw [List.map_cons, List.map_cons]
    refine .cons ?_ ih
    obtain ⟨h1, h2⟩ := h
    by_cases e : p.1 = k
    · rw [if_pos e, if_pos (h1.symm.trans e)]; exact ⟨h1, ry⟩
    · rw [if_neg e, if_neg (fun z => e (h1.trans z))]; exact ⟨h1, h2⟩
theorem KV.put {kvs : List (κ × V)} {vs : List (κ × Value)} (r : KV kvs vs) (k : κ) {y : V} {u : Value} (ry : RelV y u) : KV (putK kvs k y) (stored vs k u) := by
  unfold putK stored
  rw [r.any k]
  by_cases e : (vs.any fun kv => decide (kv.1 = k)) = true
  · rw [if_pos e, if_pos e]; exact r.repl k ry
  · rw [if_neg e, if_neg e]; exact Paired.snoc r ⟨rfl, ry⟩
theorem KV.drop {kvs : List (κ × V)} {vs : List (κ × Value)} (r : KV kvs vs) (k : κ) : KV (dropK kvs k) (without vs k) := by
  unfold KV at r ⊢
  unfold dropK without
  induction r with
  | nil => exact .nil
  | @cons p q ps qs h t ih =>
    obtain ⟨h1, h2⟩ := h
    rw [List.filter_cons, List.filter_cons]
    by_cases e : p.1 = k
    · have a : ¬ decide (p.1 ≠ k) = true := by simp [e]
      have b : ¬ decide (q.1 ≠ k) = true := by simp [h1.symm.trans e]
      rw [if_neg a, if_neg b]; exact ih
    · have e' : ¬ q.1 = k := fun z => e (h1.trans z)
      have a : decide (p.1 ≠ k) = true := by simp [e]
      have b : decide (q.1 ≠ k) = true := by simp [e']
      rw [if_pos a, if_pos b]; exact .cons ⟨h1, h2⟩ ih
theorem KV.keys {kvs : List (κ × V)} {vs : List (κ × Value)} (r : KV kvs vs) : kvs.map (·.1) = vs.map (·.1) := by
  unfold KV at r
  induction r with
  | nil => rfl
  | cons h t ih => rw [List.map_cons, List.map_cons, ih, h.1]
theorem KV.length {kvs : List (κ × V)} {vs : List (κ × Value)} (r : KV kvs vs) : kvs.length = vs.length := Paired.length r
end
theorem kV_is {P : Program} {w : World} {k : Key} {u : Value} (r : RelV (kV k) u) : (mixKind P w).is k u = true := by
  cases k with
  | inl i => obtain ⟨t, e⟩ := (show ∃ t, u = Value.int i t from r); subst e; exact mixKind_int P w i t
  | inr x => obtain ⟨t, e⟩ := (show ∃ t, u = Value.str x t from r); subst e; exact mixKind_str P w x t
theorem items_are {P : Program} {w : World} : ∀ {ks : List Key} {us : List Value}, Vals (ks.map kV) us → ItemsAre (mixKind P w) ks us
  | [], _, r => by rw [List.map_nil] at r; cases r; exact .nil
  | k :: ks, _, r => by
    rw [List.map_cons] at r
    cases r with
    | cons h t => exact .cons (kV_is h) (items_are t)
abbrev KT (H : Hp) : List (List Key × V) → List (List Key × Addr × Value) → Prop := Paired fun p q => p.1 = q.1 ∧ H q.2.1 = some (.tup (p.1.map kV)) ∧ RelV p.2 q.2.2
theorem KT.val {H : Hp} {kvs : List (List Key × V)} {xs : List (List Key × Addr × Value)} (r : KT H kvs xs) (k : List Key) : RelO (valV kvs k) ((atKey xs k).map (·.2)) := by
  induction r with
  | nil => exact True.intro
  | @cons p q ps qs h t ih =>
    obtain ⟨h1, _, h2⟩ := h
    by_cases e : p.1 = k
    · have e' : q.1 = k := h1.symm.trans e
      have b : atKey (q :: qs) k = some q.2 := by simp [atKey, List.find?_cons, e']
      rw [valV_pos e, b]; exact h2
    · have e' : ¬ q.1 = k := fun z => e (h1.trans z)
      have b : atKey (q :: qs) k = atKey qs k := by simp [atKey, List.find?_cons, e']
      rw [valV_neg e, b]; exact ih
theorem KT.repl {H : Hp} {kvs : List (List Key × V)} {xs : List (List Key × Addr × Value)} (r : KT H kvs xs) (k : List Key) {y : V} {u : Value} (ry : RelV y u) :
    KT H (kvs.map fun kv => if kv.1 = k then (kv.1, y) else kv) (xs.map (putAt k u)) := by
  induction r with
  | nil => exact .nil
  | @cons p q ps qs h t ih =>
    rw [List.map_cons, List.map_cons]
    refine .cons ?_ ih
    obtain ⟨h1, h2, h3⟩ := h
    unfold putAt
    by_cases e : p.1 = k
    · rw [if_pos e, if_pos (h1.symm.trans e)]; exact ⟨h1, h2, ry⟩
    · rw [if_neg e, if_neg (fun z => e (h1.trans z))]; exact ⟨h1, h2, h3⟩
theorem KT.put {H : Hp} {kvs : List (List Key × V)} {xs : List (List Key × Addr × Value)} (r : KT H kvs xs) (k : List Key) {b : Addr} {y : V} {u : Value} (hb : H b = some (.tup (k.map kV))) (ry : RelV y u) :
    KT H (putK kvs k y) (storedH xs k b u) := by
  have e : (kvs.any fun kv => decide (kv.1 = k)) = (atKey xs k).isSome := by
    rw [valV_any, (r.val k).isSome_eq, Option.isSome_map]
  unfold putK storedH
  rw [e]
  by_cases q : (atKey xs k).isSome = true
  · rw [if_pos q, if_pos q]; exact r.repl k ry
  · rw [if_neg q, if_neg q]; exact Paired.snoc r ⟨rfl, hb, ry⟩
theorem KT.keeps {H H' : Hp} {kvs : List (List Key × V)} {xs : List (List Key × Addr × Value)} (r : KT H kvs xs) (ht : ∀ b ys, H b = some (.tup ys) → H' b = some (.tup ys)) : KT H' kvs xs :=
  Paired.mapP r fun _ _ z => ⟨z.1, ht _ _ z.2.1, z.2.2⟩
section
variable {P : Program} {w : World} {H : Hp} {h : Heap} {a : Addr}
theorem rd_of {u : HO} (ok : HOk P w H h) (e : Rd H a u) : ObjOk P w H h a u := e.ok ok
theorem dk_rd {kvs : List (Key × V)} (ok : HOk P w H h) (e : Rd H a (.dK kvs)) : kvs.length ≤ sizeLine ∧ (a == sysModules) = false ∧ ∃ vs, KV kvs vs ∧ h.DictOf (mixKind P w) a vs :=
  show ObjOk P w H h a (.dK kvs) from rd_of ok e
theorem dk_of {kvs : List (Key × V)} (ok : HOk P w H h) (e : H a = some (.dK kvs)) : kvs.length ≤ sizeLine ∧ (a == sysModules) = false ∧ ∃ vs, KV kvs vs ∧ h.DictOf (mixKind P w) a vs := dk_rd ok (.inl e)
theorem key_of {ks : List Key} (ok : HOk P w H h) (e : H a = some (.tup (ks.map kV))) : (tupleKind (mixKind P w)).is h ks a := by
  obtain ⟨_, its, r, o, h1, h2, n, h3⟩ := (show ObjOk P w H h a (.tup (ks.map kV)) from ok a _ e)
  exact ⟨o, its.toArray, n, h1, h2, h3, by simpa using items_are r⟩
theorem dt_rd {kvs : List (List Key × V)} (ok : HOk P w H h) (e : Rd H a (.dT kvs)) : kvs.length ≤ sizeLine ∧ (a == sysModules) = false ∧
    ∃ xs, KT H kvs xs ∧ h.DictOfH (tupleKind (mixKind P w)) a xs := by
  obtain ⟨z, y, xs, r, o, es, ep, h1, h2, h3, h4, h5⟩ := (show ObjOk P w H h a (.dT kvs) from rd_of ok e)
  refine ⟨z, y, xs, r, o, es, ep, h1, h2, h3, h4, fun x hx => ?_, h5⟩
  have all : ∀ {l : List (List Key × V)} {m : List (List Key × Addr × Value)}, KT H l m → ∀ x ∈ m, (tupleKind (mixKind P w)).is h x.1 x.2.1 := by
    intro l m q
    induction q with
    | nil => intro x hx; exact nomatch hx
    | @cons p q ps qs hq t ih =>
      intro x hx
      rcases List.mem_cons.mp hx with e | hx
      · subst e
        exact key_of ok (by rw [← hq.1]; exact hq.2.1)
      · exact ih x hx
  exact all r x hx
theorem dt_of {kvs : List (List Key × V)} (ok : HOk P w H h) (e : H a = some (.dT kvs)) : kvs.length ≤ sizeLine ∧ (a == sysModules) = false ∧
    ∃ xs, KT H kvs xs ∧ h.DictOfH (tupleKind (mixKind P w)) a xs := dt_rd ok (.inl e)
end
def DGet (H : Hp) (a : Addr) (y : V) (r : Option V) : Prop :=
  (∃ kvs k, Rd H a (.dK kvs) ∧ y = kV k ∧ r = valV kvs k) ∨ ∃ kvs k b, Rd H a (.dT kvs) ∧ y = .ref b ∧ H b = some (.tup (k.map kV)) ∧ r = valV kvs k
def DPut (H : Hp) (a : Addr) (y v : V) (H' : Hp) : Prop :=
  (∃ kvs k, H a = some (.dK kvs) ∧ y = kV k ∧ kvs.length < sizeLine ∧ H' = upd H a (.dK (putK kvs k v))) ∨
  ∃ kvs k b, H a = some (.dT kvs) ∧ y = .ref b ∧ H b = some (.tup (k.map kV)) ∧ kvs.length < sizeLine ∧ H' = upd H a (.dT (putK kvs k v))
theorem DGet.k {H : Hp} {a : Addr} {kvs : List (Key × V)} {k : Key} (e : H a = some (.dK kvs)) : DGet H a (kV k) (valV kvs k) := .inl ⟨kvs, k, .inl e, rfl, rfl⟩
theorem DGet.t {H : Hp} {a b : Addr} {kvs : List (List Key × V)} {k : List Key} (e : H a = some (.dT kvs)) (eb : H b = some (.tup (k.map kV))) : DGet H a (.ref b) (valV kvs k) := .inr ⟨kvs, k, b, .inl e, rfl, eb, rfl⟩
theorem DPut.k {H : Hp} {a : Addr} {kvs : List (Key × V)} {k : Key} {v : V} (e : H a = some (.dK kvs)) (hl : kvs.length < sizeLine) : DPut H a (kV k) v (upd H a (.dK (putK kvs k v))) := .inl ⟨kvs, k, e, rfl, hl, rfl⟩
theorem DPut.t {H : Hp} {a b : Addr} {kvs : List (List Key × V)} {k : List Key} {v : V} (e : H a = some (.dT kvs)) (eb : H b = some (.tup (k.map kV))) (hl : kvs.length < sizeLine) :
    DPut H a (.ref b) v (upd H a (.dT (putK kvs k v))) := .inr ⟨kvs, k, b, e, rfl, eb, hl, rfl⟩
section
variable {X : Cx} {pins : List (Addr × Obj)} {σ : St} {H : Hp} {s : Shared} {a : Addr} {y v : V} {u r : Value} {o : Option V} {A : Around} {E : Value → Shared → Prop}
theorem Inv.big (I : Inv X pins σ H s) : sysModules < s.heap.objs.size := by
  have h : mainGlobals < s.heap.objs.size := (I.mod.glob.keeps I.bk).lt
  exact Nat.lt_trans (by decide) h
theorem d_in {Q : Value → Shared → Prop} (hu : A.units + 1 < cLine) (I : Inv X pins σ H s) (g : DGet H a y o) (ry : RelV y u) (h : ∀ s', Inv X pins σ H s' → Q (.bool o.isSome) s') :
    wpAny (model X.prog X.w) A (compareOp .In u (.ref a)) Q E s := by
  rcases g with ⟨kvs, k, e, ey, l⟩ | ⟨kvs, k, b, e, ey, eb, l⟩
  · subst ey
    obtain ⟨z, hd, vs, rel, dd⟩ := dk_rd I.hok e
    refine wpAny_in_of (kV_is ry) hd dd.mapOf ?_
    rw [← (rel.val k).isSome_eq, ← l]
    exact h _ (I.tok _)
  · subst ey
    cases (show u = Value.ref b from ry)
    obtain ⟨z, hd, xs, rel, dd⟩ := dt_rd I.hok e
    refine wpAny_in_heap (tupleKind_room_in1 hu) (key_of I.hok eb) hd dd ?_
    have q := (rel.val k).isSome_eq
    rw [Option.isSome_map] at q
    rw [← q, ← l]
    exact h _ (I.tok _)
theorem d_write {h' : Heap} {t' : Nat} {ob : HO} (I : Inv X pins σ H s) (mu : Mut (H a)) (hs : Heap.SameBut a s.heap h') (he : ∃ q, h'.get? a = some q) (new : ObjOk X.prog X.w (upd H a ob) h' a ob) :
    Inv X pins σ (upd H a ob) { s with heap := h', toks := t' } :=
  I.write (x := a) (e := a) mu (.inl rfl) (fun b q hb z => (hs.2 b hb).trans z) he new
theorem dk_new {P : Program} {w : World} {H' : Hp} {h' : Heap} {kvs : List (Key × V)} {vs : List (Key × Value)} (z : kvs.length ≤ sizeLine) (hd : (a == sysModules) = false) (rel : KV kvs vs) (dd : h'.DictOf (mixKind P w) a vs) :
    ObjOk P w H' h' a (.dK kvs) := ⟨z, hd, vs, rel, dd⟩
theorem d_setItem {H' : Hp} {Q : Unit → Shared → Prop} (hu : A.units + 1 < cLine) (I : Inv X pins σ H s) (g : DPut H a y v H') (ry : RelV y u) (rv : RelV v r) (h : ∀ s', Inv X pins σ H' s' → Q () s') :
    wpAny (model X.prog X.w) A (setItem (.ref a) u r) Q E s := by
  rcases g with ⟨kvs, k, e, ey, l, eH⟩ | ⟨kvs, k, b, e, ey, eb, l, eH⟩
  · subst ey eH
    obtain ⟨z, hd, vs, rel, dd⟩ := dk_of I.hok e
    have hz : vs.length ≤ sizeLine := by rw [← rel.length]; exact z
    have hl : (putK kvs k v).length ≤ sizeLine := by have := length_putK kvs k v; omega
    refine wpAny_setItem_pairs (hsz := hz) (kV_is ry) dd fun h' dd' hs => h _ ?_
    have he : ∃ q, h'.get? a = some q := let ⟨q, _, _, hq, _⟩ := dd'; ⟨q, hq⟩
    exact d_write I (by rw [e]; exact True.intro) hs he (dk_new hl hd (rel.put k rv) dd')
  · subst ey eH
    cases (show u = Value.ref b from ry)
    obtain ⟨z, hd, xs, rel, dd⟩ := dt_of I.hok e
    have hz : xs.length ≤ sizeLine := by rw [← Paired.length rel]; exact z
    have hl : (putK kvs k v).length ≤ sizeLine := by have := length_putK kvs k v; omega
    refine wpAny_setItem_heap (hsz := hz) (tupleKind_room_in1 hu) (key_of I.hok eb) dd fun h' dd' hs => h _ ?_
    obtain ⟨q, es, ep, hq, h2, h3, h4, _, h5⟩ := dd'
    refine d_write I (by rw [e]; exact True.intro) hs ⟨q, hq⟩ ⟨hl, hd, _, (rel.put k eb rv).keeps fun c ys ec => ?_, q, es, ep, hq, h2, h3, h4, h5⟩
    rw [upd_ne (ne_of ec e (fun z => nomatch z))]
    exact ec
end
def tDIn (ty td : TE) : TE := fun σ H Q => ty σ H fun y H1 => td σ H1 fun x H2 => ∃ a o, x = .ref a ∧ DGet H2 a y o ∧ Q (.bl o.isSome) H2
def sDPut (td ty tv : TE) : TS := fun D σ H => tv σ H fun v H1 => td σ H1 fun x H2 => ty σ H2 fun y H3 => ∃ a H4, x = .ref a ∧ DPut H3 a y v H4 ∧ D.nx σ H4
section
variable {X : Cx} {o i e value : Expr} {pos pos' tpos : Pos} {td ty tv : TE}
theorem pc_din (hu : X.A.units + 1 < cLine) (hi : PE X i ty) (ho : PE X o td) : PC X .In i o (tDIn ty td) := by
  intro pins s σ H Q I h
  refine thn (hi pins s σ H _ I h) fun iv s1 ⟨y, H1, I1, ry, q1⟩ => thn (ho pins s1 σ H1 _ I1 q1) fun u s2 ⟨x, H2, I2, rx, a, ov, ex, g, q2⟩ => ?_
  subst ex
  obtain rfl : u = Value.ref a := rx
  exact d_in hu I2 g ry fun s3 I3 => ⟨.bl ov.isSome, H2, I3, rfl, q2⟩
theorem ps_dput (hu : X.A.units + 1 < cLine) (ho : PE X o td) (hi : PE X i ty) (hv : PE X value tv) (hs : swapsWith value (some (.Subscript o i pos')) pos.line X.env = pure false) :
    PS X (.Assign [.Subscript o i pos'] value pos) (sDPut td ty tv) := by
  intro pins s σ H D I h
  refine wpAny_Assign_Subscript (thn (hv pins s σ H _ I h) fun r s1 ⟨v, H1, I1, rv, q1⟩ => thn (ho pins s1 σ H1 _ I1 q1) fun u s2 ⟨x, H2, I2, rx, q2⟩ => thn (hi pins s2 σ H2 _ I2 q2) fun iv s3 ⟨y, H3, I3, ry, a, H4, ex, g, q3⟩ => ?_) hs
  subst ex
  obtain rfl : u = Value.ref a := rx
  exact d_setItem hu I3 g ry rv fun s4 I4 => ⟨σ, H4, I4, q3⟩
end
theorem dk_empty {P : Program} {w : World} {H : Hp} (h : Heap) (hb : sysModules < h.objs.size) : ObjOk P w H (h.push { cls := .type "dict", data := .dict #[] }) h.objs.size (.dK []) :=
  ⟨Nat.zero_le _, beq_eq_false_iff_ne.mpr (Ne.symm (Nat.ne_of_lt hb)), [], .nil, Heap.DictOf.new h⟩
def tDNewK : TE := fun _ H Q => ∀ p, H p = none → Q (.ref p) (upd H p (.dK []))
section
variable {X : Cx} {pos : Pos}
theorem pe_dnewK : PE X (.Dict [] [] pos) tDNewK := fun pins s σ H Q I h =>
  wpAny_Dict_empty ⟨.ref s.heap.objs.size, _, I.laid (a := s.heap.objs.size) (o := .dK []) (t' := s.toks) (fun _ _ q => Heap.get?_push_of_some _ q) (Nat.le_refl _) (dk_empty s.heap I.big), rfl, h _ (I.hok.fresh (Nat.le_refl _))⟩
end
end L2
set_option maxHeartbeats 4000000
namespace L2
open PySem PySem.Spec PyProof.Rows
section
variable {P : Program} {w : World} {K : PySem.W.Frag} {mg : Str → Option Value} {base : Heap} {CX : CXT} {x : Str} {ps : List Str} {sp : Sp} {j k : Nat}
structure Def (P : Program) (w : World) (K : PySem.W.Frag) (mg : Str → Option Value) (base : Heap) (CX : CXT) (k : Nat) (x : Str) (ps : List Str) (sp : Sp) : Prop where
  ex : ∃ (f : Addr) (fd : FuncData), FnOk P w K mg base CX k f fd ps sp ∧ mg x = some (.ref f) ∧ PySem.W.keepIn K (.ref f) = true ∧ Binds K fd ps []
def HasDef (K : PySem.W.Frag) (mg : Str → Option Value) (x : Str) (st : Stmt) : Prop := ∃ (f : Addr) (fd : FuncData), Fun K x x st f fd ∧ mg x = some (.ref f)
theorem HasDef.mk {st : Stmt} {f : Addr} {oc : Value} {od an : Option Addr} {osl : Array (Option Value)} {kV doc pm cdv ct : Value} (m : mg x = some (.ref f))
    (l : K.lookup f = some ⟨oc, od, .func (PySem.W.fnOf x x (defArgs st) (defBody st) (defScope st) .none kV doc pm an cdv ct), osl⟩)
    (c : PySem.W.codeIn K cdv x = true) (k : PySem.W.keepIn K (.ref f) = true) : HasDef K mg x st := ⟨f, _, fun_mk l c k, m⟩
theorem def_of {st : Stmt} {N : List Str} (h : HasDef K mg x st) (S : FnScope N ps (defScope st)) (len : ∀ vs H Q E, sp vs H Q E → vs.length = ps.length)
    (hb : ∀ (kV doc pm : Value) (an : Option Addr) (cdv ct : Value) (us : List Value), us.length = ps.length → bindArgs (PySem.W.fnOf x x (defArgs st) (defBody st) (defScope st) .none kV doc pm an cdv ct) ⟨us, []⟩ = pure (ps.zip us))
    (hbody : ∀ (f : Addr) (cdv : Value) (A : Around) (outer : List Env) (s : Shared) (H : Hp) (vs : List V) (Q : VK) (E : XK), Room k (A.deeper (envOfC x (defScope st) s.heap.objs.size f cdv)) → sp vs H Q E →
      ∃ t, PSs (cxOf CX P w K mg base N x (defScope st) f cdv A outer s H E).nox (defBody st) t ∧ t { nx := fun _ H' => Q .non H', rt := Q } (start N vs) H) : Def P w K mg base CX (k + 1) x ps sp := by
  obtain ⟨f, fd, F, m⟩ := h
  refine ⟨f, fd, ?_, m, F.kp, F.binds hb⟩
  obtain ⟨oc, od, kV, doc, pm, an, cdv, ct, osl, rfl, lk, hcd⟩ := F.ex
  refine fn_of lk hcd S len fun A outer s H vs Q E hr hsp => ?_
  obtain ⟨t, h, q⟩ := hbody f cdv A outer s H vs Q E hr hsp
  exact ⟨t, h.nox, q⟩
end
section
variable {X : Cx} {CX : CXT} {k m : Nat} {x : Str} {ps : List Str} {sp : Sp} {E : XK} {p pos : Pos} {e : Expr} {es : List Expr} {t : TA}
theorem pe_def (D : Def X.prog X.w X.K X.mg X.base CX k x ps sp) (hr : Room m X.A) (ha : PA X (e :: es) t) (hk : k ≤ m := by decide) (hx : Passes CX X E := by exact pass0) (hg : Gl X x := by rfl)
    (hdb : (x == ("__debug__" : Str)) = false := by decide) (he : starEach (e :: es) X.env = (false, eval e X.env) :: starEach es X.env := by rfl) (hpl : (backTo pos (starEach es X.env)).any (·.1) = false := by rfl) :
    PE X (.Call (.Name x p) (e :: es) [] pos) (tCall sp [] E t) := by
  obtain ⟨f, fd, F, hm, kp, b⟩ := D.ex
  exact pe_call F (hr.mono hk) hg hm kp b .nil hx ha hdb he hpl
end
def GlobIs (mg : Str → Option Value) (x : Str) (v : V) : Prop := ∃ u, mg x = some u ∧ RelV v u
theorem pe_gl {X : Cx} {x : Str} {v : V} {pos : Pos} (h : GlobIs X.mg x v) (hg : Gl X x := by rfl) (hd : (x == ("__debug__" : Str)) = false := by decide) : PE X (.Name x pos) (tC v) :=
  let ⟨_, e, r⟩ := h
  pe_glob hg e r hd
section
variable {X : Cx} {T : String} {pos : Pos}
theorem pe_ty {x : Str} (hg : Gl X x) (hm : X.mg x = none) (hv : bootBuiltins x = some (.type T)) (hn : x ≠ "__name__" := by decide) (hd : (x == ("__debug__" : Str)) = false := by decide) : PE X (.Name x pos) (tC (.ty T)) :=
  pe_bltn hg hm hv rfl hn hd
def clsIs (K : PySem.W.Frag) (t : Value) : V → Option Bool
  | .ty T => PySem.W.kitOne K t (.type T)
  | .ref C => PySem.W.kitOne K t (.ref C)
  | _ => none
theorem call_isinstance : CallR X (.builtin "isinstance") (fun xs H Q => ∃ x c t b, xs = [x, c] ∧ TyOf X.K H x t ∧ clsIs X.K t c = some b ∧ Q (.bl b) H) := by
  intro pins s σ H xs us Q I r h
  obtain ⟨x, c, t, b, rfl, ty, e, q⟩ := h
  obtain ⟨u, v, rfl, ru, rv⟩ := vals2 r
  cases c with
  | ty T =>
    obtain rfl : v = Value.type T := rv
    exact isinst_ok I ru ty e fun tk => ⟨.bl b, H, I.tok _, rfl, q⟩
  | ref C =>
    obtain rfl : v = Value.ref C := rv
    exact isinst_ok I ru ty e fun tk => ⟨.bl b, H, I.tok _, rfl, q⟩
  | _ => cases e
end
def closOf (env : Env) : List (Str × NameKind) → Option (List (Str × Addr))
  | [] => some []
  | (n, k) :: r => if k = .free then (env.cells.lookup n).bind fun c => (closOf env r).map fun cl => cl ++ [(n, c)] else closOf env r
theorem closOf_lookup {env : Env} : ∀ {names : List (Str × NameKind)} {cl : List (Str × Addr)}, closOf env names = some cl → ∀ x c, cl.lookup x = some c → env.cells.lookup x = some c
  | [], cl, h, x, c, e => by
    cases (Option.some.inj h)
    cases e
  | (n, k) :: r, cl, h, x, c, e => by
    unfold closOf at h
    by_cases hk : k = .free
    · rw [if_pos hk] at h
      cases hc : env.cells.lookup n with
      | none => rw [hc] at h; cases h
      | some c' =>
        rw [hc] at h
        have h : (closOf env r).map (fun cl => cl ++ [(n, c')]) = some cl := h
        cases hr : closOf env r with
        | none => rw [hr] at h; cases h
        | some cl' =>
          rw [hr] at h
          have h : cl' ++ [(n, c')] = cl := Option.some.inj h
          subst h
          rw [List.lookup_append] at e
          cases h2 : cl'.lookup x with
          | some c2 =>
            rw [h2] at e
            have e : c2 = c := by simpa using e
            subst e
            exact closOf_lookup hr x c2 h2
          | none =>
            rw [h2] at e
            have e : List.lookup x [(n, c')] = some c := by simpa using e
            by_cases hx : x = n
            · subst hx
              have : c' = c := by simpa using e
              subst this
              exact hc
            · have hb : (x == n) = false := by simpa using hx
              simp [List.lookup_cons, hb] at e
    · rw [if_neg hk] at h
      exact closOf_lookup h x c e
theorem closureFor_go {env : Env} : ∀ (names : List (Str × NameKind)) (acc cl : List (Str × Addr)), closOf env names = some cl →
    (forIn (m := Sem) names acc fun x c => if x.2 == NameKind.free then (do let a ← cellOf env x.1; pure (ForInStep.yield ((x.1, a) :: c))) else pure (ForInStep.yield c)) = pure (cl ++ acc)
  | [], acc, cl, h => by
    cases (Option.some.inj h)
    rfl
  | (n, k) :: r, acc, cl, h => by
    unfold closOf at h
    rw [List.forIn_cons]
    by_cases hk : k = .free
    · rw [if_pos hk] at h
      cases hc : env.cells.lookup n with
      | none => rw [hc] at h; cases h
      | some c' =>
        rw [hc] at h
        have h : (closOf env r).map (fun cl => cl ++ [(n, c')]) = some cl := h
        cases hr : closOf env r with
        | none => rw [hr] at h; cases h
        | some cl' =>
          rw [hr] at h
          have h : cl' ++ [(n, c')] = cl := Option.some.inj h
          subst h
          have hb : (k == NameKind.free) = true := by simpa using hk
          have := closureFor_go r ((n, c') :: acc) cl' hr
          have ec : cellOf env n = pure c' := by unfold cellOf; rw [hc]
          simp only [hb, if_true, ec, pure_bind, bind_assoc]
          rw [this]
          simp
    · rw [if_neg hk] at h
      have hb : (k == NameKind.free) = false := by simpa using hk
      have := closureFor_go r acc cl h
      simp only [hb, Bool.false_eq_true, if_false, pure_bind]
      exact this
theorem closureFor_of {env : Env} {scope : Scope} {cl : List (Str × Addr)} (h : closOf env scope.names = some cl) : closureFor scope env = pure cl := by
  have := closureFor_go scope.names [] cl h
  rw [List.append_nil] at this
  have key : closureFor scope env = (forIn (m := Sem) scope.names ([] : List (Str × Addr)) fun x c => if x.2 == NameKind.free then (do let a ← cellOf env x.1; pure (ForInStep.yield ((x.1, a) :: c))) else pure (ForInStep.yield c)) >>= fun cs => pure cs := by
    unfold closureFor
    rfl
  rw [key, this]
  rfl
theorem comp_loop {prog : Program} {w : World} {A : Around} {R : Result → Shared → Prop} {s : Shared} {elt target iter : Expr} {ifs : List Expr} {scope : Scope} {pos : Pos} {it acc : Value} {env : Env} (I : Nat → Shared → Prop)
    (turn : ∀ n s, I n s → wpAny (model prog w) A (pyNext it) (fun r s₁ => match r with
      | none => R (.ok .next) s₁
      | some v => wpAny (model prog w) A (letOwnedTupleGo target it v) (fun _ s₀ => wpAny (model prog w) A (assign target env v) (fun _ s₂ =>
          wpAny (model prog w) A (forIn ifs true fun c r => if r = true then do let ok ← isTrue c env (eval c env); pure (ForInStep.yield ok) else pure (ForInStep.yield r)) (fun ok s₃ =>
            if ok = true then wpAny (model prog w) A (eval elt env) (fun x s₄ =>
              wpAny (model prog w) A (call (.builtin "list.append") [acc, x]) (fun _ s₅ => ∃ m, m < n ∧ I m s₅) (fun _ _ => False) s₄) (fun _ _ => False) s₃
            else ∃ m, m < n ∧ I m s₃) (fun _ _ => False) s₂) (fun _ _ => False) s₀) (fun _ _ => False) s₁) (fun _ _ => False) s)
    (n : Nat) (h : I n s) :
    codeAny (model prog w) A (.compLoop (.ListComp elt [⟨target, iter, ifs, 0⟩] scope pos) 0 it acc env) R s := by
  refine codeAny_loop rfl I (fun n s hI => ?_) n h
  show wpAny _ A ((compTurn (.ListComp elt [⟨target, iter, ifs, 0⟩] scope pos) 0 it acc env).onRaise (fun x => do noteFrame x env; theTreesLotGoes x)) _ _ s
  refine wpAny_noted ?_
  rw [compTurn_list]
  refine wpAny_bind (wpAny_standAt (wpAny_bind (wpAny_mono (turn n s hI) (fun r s₁ h₁ => ?_) fun _ _ h' => h'.elim)))
  cases r with
  | none => exact wpAny_pure h₁
  | some v =>
    refine wpAny_bind (wpAny_mono h₁ (fun _ s₀ h₀ => ?_) fun _ _ h' => h'.elim)
    refine wpAny_bind (wpAny_mono h₀ (fun _ s₂ h₂ => wpAny_bind (wpAny_mono h₂ (fun ok s₃ h₃ => ?_) fun _ _ h' => h'.elim)) fun _ _ h' => h'.elim)
    cases ok with
    | false => exact wpAny_pure ⟨rfl, h₃⟩
    | true =>
      exact wpAny_bind (wpAny_bind (wpAny_mono h₃ (fun x s₄ h₄ => wpAny_bind (wpAny_mono h₄ (fun _ s₅ h₅ => wpAny_pure (wpAny_pure ⟨rfl, h₅⟩)) fun _ _ h' => h'.elim)) fun _ _ h' => h'.elim))
def cxComp (X : Cx) (N : List Str) (scope : Scope) (cl : List (Str × Addr)) (pins : List (Addr × Obj)) (s : Shared) (H : Hp) (fp : List Addr) : Cx where
  prog := X.prog
  w := X.w
  K := X.K
  mg := X.mg
  base := X.base
  A := X.A
  N := N
  s₀ := s
  H₀ := H
  env := compEnvC scope cl s.heap.objs.size X.env
  outer := X.stack
  stack := X.stack
  ex := fp
  fn := fun _ => false
  calm := X.calm
  pn := X.pn ++ pins
  xe := fun _ _ => False
def compStart0 (nt : Nat) (fr : List Nat) (σ : St) : St := List.replicate nt none ++ fr.map fun i => (σ[i]?).getD none
structure CompNames (X : Cx) (N : List Str) (nt : Nat) (fr : List Nat) (scope : Scope) (cl : List (Str × Addr)) : Prop where
  len : N.length = nt + fr.length
  free : ∀ (j : Nat) (i : Nat) (x : Str), fr[j]? = some i → N[nt + j]? = some x → X.N[i]? = some x ∧ (∃ c, cl.lookup x = some c) ∧ (X.env.kindOf x = some .cell ∨ X.env.kindOf x = some .free) ∧
    ((relabel scope X.env).names.lookup x = some .cell ∨ (relabel scope X.env).names.lookup x = some .free)
  cells : ∀ x c, cl.lookup x = some c → X.env.cells.lookup x = some c
  has : ∀ x, ((relabel scope X.env).names.lookup x = some .cell ∨ (relabel scope X.env).names.lookup x = some .free) → ∃ c, cl.lookup x = some c
  kind : scope.kind = .function
theorem Vis_of_cell {X : Cx} {x : Str} (h : X.env.kindOf x = some .cell ∨ X.env.kindOf x = some .free) : Vis X.env.scope x := by
  rcases h with h | h
  · exact .inr (.inl h)
  · exact .inr (.inr h)
section
variable {X : Cx} {N : List Str} {nt : Nat} {fr : List Nat} {scope : Scope} {cl : List (Str × Addr)} {pins : List (Addr × Obj)} {σ : St} {H : Hp} {s : Shared} {fp : List Addr}
theorem comp_ok (I : Inv X pins σ H s) (cn : CompNames X N nt fr scope cl) (hf : ∀ b ∈ fp, FpOk X pins H b) (ho : ∀ b ∈ fp, b < s.heap.objs.size) : (cxComp X N scope cl pins s H fp).Ok where
  mod := I.mod
  kind := cn.kind
  glob := I.ok.glob
  blt := I.ok.blt
  above := Nat.le_refl _
  inj := fun x y c h1 h2 => I.ok.inj x y c (cn.cells x c h1) (cn.cells y c h2)
  has := fun x hx => cn.has x hx
  cab := fun x c h _ => by cases (show false = true from h)
  hd := I.ok.hd
  frames := I.ok.frames
  stk := .inl rfl
  exf := fun b hb => ⟨Nat.ne_of_lt (ho b hb), fun x c e => (hf b hb).2.2.2.2.1 x c (cn.cells x c e)⟩
  bs := I.bs
  bsz := Nat.le_trans I.ok.bsz I.sz
  noex := fun b o e hb => by
    rcases (hf b hb).2.2.2.1 with z | z
    · exact I.ok.noex b o e z
    · exact absurd (Nat.lt_of_lt_of_le (Heap.lt_size e) (Nat.le_trans I.ok.bsz z)) (Nat.lt_irrefl _)
  exfs := fun b hb z => (List.mem_cons.mp (I.stkSub b z)).elim (fun e => (hf b hb).2.1 e) fun e => (hf b hb).2.2.1 e
  funs := I.stack
  frf := I.stkFree
theorem comp_inv {h4 : Heap} {t' : Nat} (I : Inv X pins σ H s) (cn : CompNames X N nt fr scope cl) (hf : ∀ b ∈ fp, FpOk X pins H b) (ho : ∀ b ∈ fp, b < s.heap.objs.size)
    (k : ∀ b o, s.heap.get? b = some o → h4.get? b = some o) (hns : ∃ m, h4.Ns s.heap.objs.size m) : Inv (cxComp X N scope cl pins s H fp) [] (compStart0 nt fr σ) H { s with heap := h4, toks := t' } := by
  have ck : ∀ {c : Addr} {v : Option Value}, s.heap.IsCell c v → h4.IsCell c v := fun ⟨o, e, d⟩ => ⟨o, k _ o e, d⟩
  refine ⟨comp_ok I cn hf ho, rfl, I.bare, Un.kept k, ?_, fun x c e => ?_, ?_, fun x c e => ?_, fun p hp => ?_, I.hok.kept k, ?_⟩
  · obtain ⟨m, hm⟩ := hns
    refine ⟨m, hm, fun i x v e1 e2 _ => ?_⟩
    have e2 : (compStart0 nt fr σ)[i]? = some (some v) := e2
    have e1 : N[i]? = some x := e1
    unfold compStart0 at e2
    by_cases hi : i < nt
    · rw [List.getElem?_append_left (by simpa using hi), List.getElem?_replicate, if_pos hi] at e2
      cases e2
    · obtain ⟨j, rfl⟩ : ∃ j, i = nt + j := ⟨i - nt, by omega⟩
      rw [List.getElem?_append_right (by simp), List.length_replicate, Nat.add_sub_cancel_left, List.getElem?_map] at e2
      cases hj : fr[j]? with
      | none => rw [hj] at e2; cases e2
      | some i' =>
        rw [hj] at e2
        have e2 : (σ[i']?).getD none = some v := Option.some.inj e2
        have e3 : σ[i']? = some (some v) := by
          cases q : σ[i']? with
          | none => rw [q] at e2; cases e2
          | some o => rw [q] at e2; rw [show o = some v from e2]
        obtain ⟨hN, ⟨c, hc⟩, hk, hk'⟩ := cn.free j i' x hj e1
        obtain ⟨m0, _, hl⟩ := I.loc
        obtain ⟨u, r, l⟩ := hl i' x v hN e3 (Vis_of_cell hk)
        refine ⟨u, r, .inr ⟨hk', c, hc, ?_⟩⟩
        rcases l with ⟨hl', _⟩ | ⟨_, c', hc', hcell⟩
        · rcases hk with z | z <;> (rw [hl'] at z; cases z)
        · have hcc := cn.cells x c hc
          rw [hc'] at hcc; cases hcc
          exact ck hcell
  · obtain ⟨v, hv⟩ := I.cell x c (cn.cells x c e)
    exact ⟨v, ck hv⟩
  · exact I.hok.fresh (Nat.le_refl _)
  · exact I.freeC x c (cn.cells x c e)
  · have hp : p ∈ (X.pn ++ pins) ++ [] := hp
    rw [List.append_nil] at hp
    obtain ⟨e, n, ne, nf, d⟩ := I.pin p hp
    exact ⟨k p.1 p.2 e, n, Nat.ne_of_lt (Heap.lt_size e), fun z => (List.mem_cons.mp (I.stkSub p.1 z)).elim ne nf, d⟩
  · show (compStart0 nt fr σ).length = N.length
    unfold compStart0
    rw [cn.len, List.length_append, List.length_replicate, List.length_map]
theorem comp_back {H' : Hp} {s1 s' : Shared} {h' : Heap} {σ' : St} (I : Inv X pins σ H s) (hsz : s.heap.objs.size ≤ s1.heap.objs.size) (hos : s1.os = s.os) {H1 : Hp} (hH : Un (frs X.stack) fp H H1 s.heap s1.heap)
    (hf : ∀ b ∈ fp, FpOk X pins H b)
    (J : Inv (cxComp X N scope cl pins s1 H1 fp) [] σ' H' s') (sb : Heap.SameBut s1.heap.objs.size s'.heap h') : Inv X pins σ H' { s' with heap := h' } := by
  have u : Un (frs X.stack) fp H H' s.heap s'.heap := hH.trans J.base
  have lt : ∀ b o, s.heap.get? b = some o → b ≠ s1.heap.objs.size := fun b o e => Nat.ne_of_lt (Nat.lt_of_lt_of_le (Heap.lt_size e) hsz)
  have kk : ∀ b o, b ≠ s1.heap.objs.size → s'.heap.get? b = some o → h'.get? b = some o := fun b o hb e => sb.extBut b o hb e
  have u' : Un (frs X.stack) fp H H' s.heap h' := ⟨fun b o e n hb hx => kk b o (lt b o e) (u.keep b o e n hb hx), fun b o e n hb hx => let ⟨sl, z⟩ := u.slot b o e n hb hx; ⟨sl, kk b _ (lt b o e) z⟩, u.free,
    fun b o e hx => let ⟨o', z⟩ := u.there b o e hx; ⟨o', kk b o' (lt b o e) z⟩, u.tups, u.frzs, u.tbls⟩
  have nC : H' s1.heap.objs.size = none := J.free
  refine I.call' (s' := { s' with heap := h' }) (ch := fp) (J.os.trans hos) u' (fun a o e => ?_) J.bare fun b hb => ⟨(hf b hb).2.2.2.1, (hf b hb).2.1, (hf b hb).2.2.2.2.1, (hf b hb).2.2.2.2.2⟩
  refine (J.hok a o e).stay (fun b v hb q => kk b v ?_ q) (fun _ q => q) fun _ _ q => q
  rcases hb with z | z
  · rintro rfl
    rw [← z, nC] at e; cases e
  · rintro rfl
    rw [nC] at z; cases z
end
def freeB (X : Cx) (N : List Str) (nt : Nat) (scope : Scope) : List Nat → Nat → Bool
  | [], _ => true
  | i :: r, j => (match N[nt + j]? with
    | some x => decide (X.N[i]? = some x) && decide (scope.names.lookup x = some .free) && (decide (X.env.kindOf x = some .cell) || decide (X.env.kindOf x = some .free))
    | none => false) && freeB X N nt scope r (j + 1)
theorem freeB_at {X : Cx} {N : List Str} {nt : Nat} {scope : Scope} : ∀ {fr : List Nat} {k : Nat}, freeB X N nt scope fr k = true → ∀ (j i : Nat) (x : Str), fr[j]? = some i → N[nt + (k + j)]? = some x →
    X.N[i]? = some x ∧ scope.names.lookup x = some .free ∧ (X.env.kindOf x = some .cell ∨ X.env.kindOf x = some .free)
  | [], _, _, j, i, x, e, _ => by simp at e
  | i0 :: r, k, h, j, i, x, e1, e2 => by
    unfold freeB at h
    rw [Bool.and_eq_true] at h
    obtain ⟨h1, h2⟩ := h
    cases j with
    | zero =>
      have e1 : i0 = i := by simpa using e1
      subst e1
      rw [Nat.add_zero] at e2
      rw [e2] at h1
      simp only [Bool.and_eq_true, Bool.or_eq_true, decide_eq_true_eq] at h1
      exact ⟨h1.1.1, h1.1.2, h1.2⟩
    | succ j =>
      exact freeB_at h2 j i x (by simpa using e1) (by rw [show nt + (k + 1 + j) = nt + (k + (j + 1)) by omega]; exact e2)
theorem lookup_relabel {env : Env} : ∀ {names : List (Str × NameKind)} {x : Str} {k' : NameKind},
    (names.map fun (n, k) => if (k == NameKind.free && env.scope.kind == .function && env.kindOf n == some .cell) then (n, NameKind.cell) else (n, k)).lookup x = some k' →
    ∃ k, names.lookup x = some k ∧ (k = k' ∨ (k = .free ∧ k' = .cell))
  | [], _, _, h => by simp at h
  | (n, k) :: r, x, k', h => by
    have h : List.lookup x ((if (k == NameKind.free && env.scope.kind == .function && env.kindOf n == some .cell) = true then (n, NameKind.cell) else (n, k)) :: r.map _) = some k' := h
    cases hx : x == n with
    | true =>
      by_cases hc : (k == NameKind.free && env.scope.kind == .function && env.kindOf n == some .cell) = true
      · rw [if_pos hc] at h
        simp only [List.lookup_cons, hx] at h
        have hk : k = .free := by
          simp only [Bool.and_eq_true, beq_iff_eq] at hc
          exact hc.1.1
        exact ⟨k, by simp [List.lookup_cons, hx], .inr ⟨hk, (Option.some.inj h).symm⟩⟩
      · rw [if_neg hc] at h
        simp only [List.lookup_cons, hx] at h
        exact ⟨k, by simp [List.lookup_cons, hx], .inl (Option.some.inj h)⟩
    | false =>
      have h2 : List.lookup x (r.map fun (n, k) => if (k == NameKind.free && env.scope.kind == .function && env.kindOf n == some .cell) then (n, NameKind.cell) else (n, k)) = some k' := by
        by_cases hc : (k == NameKind.free && env.scope.kind == .function && env.kindOf n == some .cell) = true
        · rw [if_pos hc] at h; simpa only [List.lookup_cons, hx] using h
        · rw [if_neg hc] at h; simpa only [List.lookup_cons, hx] using h
      obtain ⟨k2, e2, o2⟩ := lookup_relabel h2
      exact ⟨k2, by simp only [List.lookup_cons, hx]; exact e2, o2⟩
theorem relabel_free {env : Env} : ∀ {names : List (Str × NameKind)} {x : Str}, names.lookup x = some .free →
    (names.map fun (n, k) => if (k == NameKind.free && env.scope.kind == .function && env.kindOf n == some .cell) then (n, NameKind.cell) else (n, k)).lookup x = some .cell ∨
    (names.map fun (n, k) => if (k == NameKind.free && env.scope.kind == .function && env.kindOf n == some .cell) then (n, NameKind.cell) else (n, k)).lookup x = some .free
  | [], _, h => by simp at h
  | (n, k) :: r, x, h => by
    show List.lookup x ((if (k == NameKind.free && env.scope.kind == .function && env.kindOf n == some .cell) = true then (n, NameKind.cell) else (n, k)) :: r.map _) = some .cell ∨ List.lookup x ((if (k == NameKind.free && env.scope.kind == .function && env.kindOf n == some .cell) = true then (n, NameKind.cell) else (n, k)) :: r.map _) = some .free
    cases hx : x == n with
    | true =>
      simp only [List.lookup_cons, hx] at h
      cases h
      by_cases hc : (NameKind.free == NameKind.free && env.scope.kind == .function && env.kindOf n == some .cell) = true
      · rw [if_pos hc]; left; simp [List.lookup_cons, hx]
      · rw [if_neg hc]; right; simp [List.lookup_cons, hx]
    | false =>
      simp only [List.lookup_cons, hx] at h
      have ih := relabel_free (env := env) h
      by_cases hc : (k == NameKind.free && env.scope.kind == .function && env.kindOf n == some .cell) = true
      · rw [if_pos hc]; simpa only [List.lookup_cons, hx] using ih
      · rw [if_neg hc]; simpa only [List.lookup_cons, hx] using ih
theorem closOf_has {env : Env} : ∀ {names : List (Str × NameKind)} {cl : List (Str × Addr)}, closOf env names = some cl → ∀ x, names.lookup x = some .free → ∃ c, cl.lookup x = some c
  | [], _, _, x, e => by simp at e
  | (n, k) :: r, cl, h, x, e => by
    unfold closOf at h
    by_cases hk : k = .free
    · rw [if_pos hk] at h
      cases hc : env.cells.lookup n with
      | none => rw [hc] at h; cases h
      | some c' =>
        rw [hc] at h
        have h : (closOf env r).map (fun cl => cl ++ [(n, c')]) = some cl := h
        cases hr : closOf env r with
        | none => rw [hr] at h; cases h
        | some cl' =>
          rw [hr] at h
          have h : cl' ++ [(n, c')] = cl := Option.some.inj h
          subst h
          rw [List.lookup_append]
          cases h2 : cl'.lookup x with
          | some c2 => exact ⟨c2, by simp⟩
          | none =>
            cases hx : x == n with
            | true => exact ⟨c', by simp [List.lookup_cons, hx]⟩
            | false =>
              simp only [List.lookup_cons, hx] at e
              obtain ⟨c3, e3⟩ := closOf_has hr x e
              rw [h2] at e3; cases e3
    · rw [if_neg hk] at h
      cases hx : x == n with
      | true =>
        simp only [List.lookup_cons, hx] at e
        exact absurd (Option.some.inj e) hk
      | false =>
        simp only [List.lookup_cons, hx] at e
        exact closOf_has h x e
theorem CompNames.of {X : Cx} {N : List Str} {nt : Nat} {fr : List Nat} {scope : Scope} {cl : List (Str × Addr)} (hcl : closOf X.env scope.names = some cl) (hlen : N.length = nt + fr.length) (hB : freeB X N nt scope fr 0 = true)
    (hcell : ∀ y ∈ scope.names, y.2 ≠ .cell) (hkind : scope.kind = .function) : CompNames X N nt fr scope cl where
  len := hlen
  free := fun j i x e1 e2 => by
    obtain ⟨h1, h2, h3⟩ := freeB_at hB j i x e1 (by rw [Nat.zero_add]; exact e2)
    exact ⟨h1, closOf_has hcl x h2, h3, relabel_free h2⟩
  cells := closOf_lookup hcl
  has := fun x hx => by
    have : scope.names.lookup x = some .free := by
      rcases hx with hx | hx
      · obtain ⟨k, e, o⟩ := lookup_relabel (names := scope.names) (env := X.env) hx
        rcases o with rfl | ⟨rfl, _⟩
        · exact absurd rfl (hcell _ (PySem.mem_of_lookup e))
        · exact e
      · obtain ⟨k, e, o⟩ := lookup_relabel (names := scope.names) (env := X.env) hx
        rcases o with rfl | ⟨rfl, _⟩
        · exact e
        · exact e
    exact closOf_has hcl x this
  kind := hkind
def PIf (X : Cx) (ifs : List Expr) (t : TT) : Prop :=
  ∀ (pins : List (Addr × Obj)) (s : Shared) (σ : St) (H : Hp) (Q : Bool → Hp → Prop), Inv X pins σ H s → t σ H Q →
    wpAny (model X.prog X.w) X.A (forIn ifs true fun c r => if r = true then do let ok ← isTrue c X.env (eval c X.env); pure (ForInStep.yield ok) else pure (ForInStep.yield r)) (TP X pins σ Q) X.xe s
def tTrue : TT := fun _ H Q => Q true H
theorem pif_nil {X : Cx} : PIf X [] tTrue := fun _ _ _ H _ I h => wpAny_pure ⟨H, I, h⟩
theorem pif_one {X : Cx} {c : Expr} {t : TT} (h : PT X c t) : PIf X [c] t := by
  intro pins s σ H Q I hw
  rw [List.forIn_cons]
  simp only [if_true]
  refine wpAny_bind (wpAny_bind (thn (h pins s σ H Q I hw) fun b s1 q => wpAny_pure ?_))
  exact wpAny_pure q
def CompGoal (J : It) (nt : Nat) (fr : List Nat) (g : TG) (c : TT) (te : TE) (σ : St) (H1 : Hp) (Q : VK) (acc : Addr) : Prop :=
  ∃ W : Nat → Nat → St → List V → Hp → Prop, (∃ m, W 0 m (compStart0 nt fr σ) [] (upd H1 acc (.lst []))) ∧ ∀ i m σ' ys H', W i m σ' ys H' → H' acc = some (.lst ys) ∧
    ((J.stop i H' ∧ Q (.ref acc) H') ∨ (J.go i H' ∧ ∀ x H2, J.yld i H' x H2 → g x σ' H2 fun σ2 H3 => c σ2 H3 fun b H4 => if b = true then
      te σ2 H4 fun y H5 => ys.length < sizeLine ∧ H5 acc = some (.lst ys) ∧ ∃ m', m' < m ∧ W (i + 1) m' σ2 (ys ++ [y]) (upd H5 acc (.lst (ys ++ [y])))
      else ∃ m', m' < m ∧ W (i + 1) m' σ2 ys H4))
def tComp (wi : TI) (nt : Nat) (fr : List Nat) (g : TG) (c : TT) (te : TE) : TE := fun σ H Q => wi σ H fun J H1 => ∀ acc, H1 acc = none → CompGoal J nt fr g c te σ H1 Q acc
section
variable {X : Cx} {target iter elt : Expr} {ifs : List Expr} {scope : Scope} {pos : Pos} {N : List Str} {nt : Nat} {fr : List Nat} {cl : List (Str × Addr)} {wi : TI} {g : TG} {c : TT} {te : TE}
theorem comp_fp {pins : List (Addr × Obj)} {σ : St} {H H1 : Hp} {s : Shared} {fp : List Addr} (I : Inv X pins σ H s) (cn : CompNames X N nt fr scope cl) (hf : ∀ b ∈ fp, FpOk X pins H b) (ho : ∀ b ∈ fp, b < s.heap.objs.size) {H' : Hp} (hn : ∀ b ∈ fp, H' b = none) :
    ∀ b ∈ fp, FpOk (cxComp X N scope cl pins s H1 fp) [] H' b := fun b hb =>
  ⟨hn b hb, Nat.ne_of_lt (ho b hb), fun z => (List.mem_cons.mp (I.stkSub b z)).elim (hf b hb).2.1 (hf b hb).2.2.1, .inl hb, fun x c e => (hf b hb).2.2.2.2.1 x c (cn.cells x c e), fun p hp => (hf b hb).2.2.2.2.2 p (by
    have hp : p ∈ (X.pn ++ pins) ++ [] := hp
    rw [List.append_nil] at hp
    exact hp)⟩
theorem comp_block {pins : List (Addr × Obj)} {σ : St} {s : Shared} {Q : VK} {itv : Value} {RR : Value → Addr → Result → Shared → Prop} {E : Value → Shared → Prop}
    (hc : X.calm = true) (cn : CompNames X N nt fr scope cl) (hcell : ∀ y ∈ scope.names, y.2 ≠ .cell)
    (hg : ∀ pins s H fp, PG (cxComp X N scope cl pins s H fp) target g) (hif : ∀ pins s H fp, PIf (cxComp X N scope cl pins s H fp) ifs c) (he : ∀ pins s H fp, PE (cxComp X N scope cl pins s H fp) elt te)
    (h : PIE X pins σ target (fun J H1 => ∀ acc, H1 acc = none → CompGoal J nt fr g c te σ H1 Q acc) itv s)
    (hRR : ∀ (acc C : Addr) (s' : Shared) (H' : Hp), (∃ m, s'.heap.Ns C m) → Inv X pins σ H' s' → FpOk X pins H' C → Q (.ref acc) H' → RR (.ref acc) C (.ok .next) s') :
    wpAny (model X.prog X.w) X.A (newList []) (fun acc s₃ => wpAny (model X.prog X.w) X.A (newFunctionEnv scope X.env.globals cl [] X.env.qual none .none (some X.env)) (fun cenv s₄ =>
      codeAny (model X.prog X.w) X.A (.compStart (.ListComp elt [⟨target, iter, ifs, 0⟩] scope pos) 0 itv acc { cenv with scope := relabel scope X.env }) (RR acc cenv.locals) s₄) E s₃) E s := by
  obtain ⟨it, fp, tn, J, H2, e, I2, T, st2, f2, R⟩ := h
  subst e
  have fo : ∀ b ∈ fp, b < s.heap.objs.size := fun b hb => let ⟨o, e, _⟩ := T.obj 0 _ st2 b hb; Heap.lt_size e
  refine wpAny_newObj_type (wpAny_newFunctionEnv hcell (by intro y hy; simp at hy) (fun h₁ hns₁ hsb₁ => ?_) cn.kind)
  dsimp only at hns₁ hsb₁ ⊢
  have ha : H2 s.heap.objs.size = none := I2.hok.fresh (Nat.le_refl _)
  have I3 : Inv X pins σ (upd H2 s.heap.objs.size (.lst [])) { s with heap := s.heap.push { cls := .type "list", data := .seq ([] : List Value).toArray } } :=
    I2.laid (t' := s.toks) (fun b u e => Heap.get?_push_of_some _ e) (Nat.le_refl _) ⟨Nat.zero_le _, [], 0, .nil, Heap.get?_push_size _ rfl⟩
  generalize hs3 : ({ s with heap := s.heap.push { cls := .type "list", data := .seq ([] : List Value).toArray } } : Shared) = s3 at I3
  have hh3 : s3.heap = s.heap.push { cls := .type "list", data := .seq ([] : List Value).toArray } := by rw [← hs3]
  have hsz : s3.heap.objs.size = s.heap.objs.size + 1 := by rw [hh3, Heap.size_push]
  have fne : ∀ b ∈ fp, b ≠ s.heap.objs.size := fun b hb => Nat.ne_of_lt (fo b hb)
  have f3 : ∀ b ∈ fp, FpOk X pins (upd H2 s.heap.objs.size (.lst [])) b := fun b hb => ⟨by rw [upd_ne (fne b hb)]; exact (f2 b hb).1, (f2 b hb).2⟩
  have fo3 : ∀ b ∈ fp, b < s3.heap.objs.size := fun b hb => by rw [hsz]; exact Nat.lt_succ_of_lt (fo b hb)
  have k3 : ∀ b o, s3.heap.get? b = some o → h₁.get? b = some o := fun b o e => hsb₁.extBut b o (by rw [← hh3]; exact Nat.ne_of_lt (Heap.lt_size e)) (by rw [← hh3]; exact Heap.get?_push_of_some _ e)
  have hns : ∃ m, h₁.Ns s3.heap.objs.size m := ⟨_, by rw [hh3]; exact hns₁⟩
  have I4 : Inv (cxComp X N scope cl pins s3 (upd H2 s.heap.objs.size (.lst [])) fp) [] (compStart0 nt fr σ) (upd H2 s.heap.objs.size (.lst [])) { s3 with heap := h₁, toks := s3.toks + ([] : List (Str × Value)).length } := comp_inv I3 cn f3 fo3 k3 hns
  have st4 : tn 0 h₁ := T.keep 0 _ _ st2 fun b hb o e => k3 b o (by rw [hh3]; exact Heap.get?_push_of_some _ e)
  obtain ⟨W, ⟨m0, w0⟩, turn⟩ := R s.heap.objs.size ha
  have stat : ∀ {H' : Hp}, (∀ b ∈ fp, H' b = none) → ∀ b ∈ fp, FpOk (cxComp X N scope cl pins s3 (upd H2 s.heap.objs.size (.lst [])) fp) [] H' b := fun hn => comp_fp I3 cn f3 fo3 hn
  have hH : Un (frs X.stack) fp H2 (upd H2 s.heap.objs.size (.lst [])) s.heap s3.heap := by
    rw [hh3]
    exact Un.laid (fun b u e => Heap.get?_push_of_some _ e) (Nat.le_refl _) ha
  have back : ∀ {σ' : St} {H' : Hp} {s' : Shared} {h' : Heap}, Inv (cxComp X N scope cl pins s3 (upd H2 s.heap.objs.size (.lst [])) fp) [] σ' H' s' → Heap.SameBut s3.heap.objs.size s'.heap h' → Inv X pins σ H' { s' with heap := h' } := fun J' sb =>
    comp_back I2 (by rw [hsz]; exact Nat.le_succ _) (by rw [← hs3]) hH f2 J' sb
  have loop : codeAny (model X.prog X.w) X.A (.compLoop (.ListComp elt [⟨target, iter, ifs, 0⟩] scope pos) 0 (.ref it) (.ref s.heap.objs.size) (compEnvC scope cl s3.heap.objs.size X.env)) (RR (.ref s.heap.objs.size) s3.heap.objs.size)
      { s3 with heap := h₁, toks := s3.toks + ([] : List (Str × Value)).length } := by
    refine comp_loop (fun n s' => ∃ i σ' ys H', Inv (cxComp X N scope cl pins s3 (upd H2 s.heap.objs.size (.lst [])) fp) [] σ' H' s' ∧ tn i s'.heap ∧ (∀ b ∈ fp, H' b = none) ∧ W i n σ' ys H') ?_ m0
      ⟨0, _, [], _, I4, st4, fun b hb => (f3 b hb).1, w0⟩
    rintro n s5 ⟨i, σ5, ys, H5, I5, st5, fr5, w5⟩
    obtain ⟨hacc, step⟩ := turn i n σ5 ys H5 w5
    rcases step with ⟨stop, q⟩ | ⟨go, step⟩
    · refine thn (T.done (cxComp X N scope cl pins s3 (upd H2 s.heap.objs.size (.lst [])) fp) rfl rfl rfl hc i [] s5 σ5 H5 (fun _ _ => False) I5 (stat fr5) st5 stop) fun r s6 ⟨hr, I6⟩ => ?_
      subst hr
      obtain ⟨m, hm, _⟩ := I6.loc
      exact hRR _ _ s6 H5 ⟨m, hm⟩ (back I6 (Heap.SameBut.refl _ _)) (I2.fpOk (by rw [hsz]; exact Nat.le_succ _) I6.free) q
    · refine thn (T.item (cxComp X N scope cl pins s3 (upd H2 s.heap.objs.size (.lst [])) fp) rfl rfl rfl hc i [] s5 σ5 H5 (fun _ _ => False) I5 (stat fr5) st5 go) fun r s6 ⟨u, hr, h6⟩ => ?_
      subst hr
      refine thn h6 fun _ s7 ⟨x, H7, I7, r7, y7, st7, fr7⟩ => ?_
      have I7' := I7.pinned (stat fr7) (T.obj _ _ st7)
      refine thn (hg pins s3 _ fp _ s7 σ5 H7 x u _ I7' r7 (step x H7 y7)) fun _ s8 ⟨σ8, H8, I8, q8⟩ => ?_
      have keepT : ∀ {σ' : St} {H' : Hp} {s' : Shared}, Inv (cxComp X N scope cl pins s3 (upd H2 s.heap.objs.size (.lst [])) fp) ([] ++ pinsAt fp s7.heap) σ' H' s' → tn (i + 1) s'.heap ∧ ∀ b ∈ fp, H' b = none := fun {σ' H' s'} I' =>
        ⟨T.keep _ _ _ st7 fun b hb o e => (I'.pin (b, o) (List.mem_append_right _ (List.mem_append_right _ (mem_pinsAt hb e)))).1, fun b hb => by
          obtain ⟨o, e, d⟩ := T.obj _ _ st7 b hb
          exact (I'.pin (b, o) (List.mem_append_right _ (List.mem_append_right _ (mem_pinsAt hb e)))).2.1⟩
      refine thn (hif pins s3 _ fp _ s8 σ8 H8 _ I8 q8) fun ok s9 ⟨H9, I9, q9⟩ => ?_
      cases ok with
      | false =>
        have q9 : ∃ m', m' < n ∧ W (i + 1) m' σ8 ys H9 := q9
        obtain ⟨m', hm, w9⟩ := q9
        exact ⟨m', hm, i + 1, σ8, ys, H9, I9.unpinned, (keepT I9).1, (keepT I9).2, w9⟩
      | true =>
        rw [if_pos rfl]
        refine thn (he pins s3 _ fp _ s9 σ8 H9 _ I9 q9) fun z s10 ⟨y, H10, I10, r10, hz, ha10, m', hm, w10⟩ => ?_
        refine thn (mt_append _ s10 σ8 H10 (.ref s.heap.objs.size) [y] (.ref s.heap.objs.size) [z] (fun v H' => v = .non ∧ H' = upd H10 s.heap.objs.size (.lst (ys ++ [y]))) I10 rfl (.cons r10 .nil) ⟨_, ys, y, rfl, rfl, ha10, hz, rfl, rfl⟩) fun v s11 ⟨_, H11, I11, _, _, e11⟩ => ?_
        subst e11
        exact ⟨m', hm, i + 1, σ8, ys ++ [y], _, I11.unpinned, (keepT I11).1, (keepT I11).2, w10⟩
  have fin : codeAny (model X.prog X.w) X.A (.compStart (.ListComp elt [⟨target, iter, ifs, 0⟩] scope pos) 0 (.ref it) (.ref s.heap.objs.size) (compEnvC scope cl s3.heap.objs.size X.env)) (RR (.ref s.heap.objs.size) s3.heap.objs.size)
      { s3 with heap := h₁, toks := s3.toks + ([] : List (Str × Value)).length } :=
    codeAny_compStart_list loop (T.self _ 0 _ _ _ st4 loop)
  rw [← hs3] at fin
  exact fin
theorem pe_comp (hi : PI X target iter wi) (hg : ∀ pins s H fp, PG (cxComp X N scope cl pins s H fp) target g) (hif : ∀ pins s H fp, PIf (cxComp X N scope cl pins s H fp) ifs c) (he : ∀ pins s H fp, PE (cxComp X N scope cl pins s H fp) elt te)
    (hc : X.calm = true := by rfl) (hcl : closOf X.env scope.names = some cl := by rfl) (hlen : N.length = nt + fr.length := by rfl) (hB : freeB X N nt scope fr 0 = true := by rfl)
    (hcell : ∀ y ∈ scope.names, y.2 ≠ .cell := by decide +kernel) (hkind : scope.kind = .function := by rfl) (hnames : ∀ y ∈ scope.names, y.2 = .local → scope.names.lookup y.1 = some .local := by decide +kernel)
    (hs : ∀ x, foldedSetIterable iter X.env x = pure x := by intro _; rfl) : PE X (.ListComp elt [⟨target, iter, ifs, 0⟩] scope pos) (tComp wi nt fr g c te) := by
  intro pins s σ H Q I h
  rw [eval_ListComp]
  refine wpAny_comprehension_free (use := none) rfl hs (closureFor_of hcl) hkind hnames (thn (hi pins s σ H _ I h) fun xv s1 h1 => thn h1 fun itv s2 h2 => ?_)
  exact comp_block hc (CompNames.of hcl hlen hB hcell hkind) hcell hg hif he h2 fun acc C s' H' ⟨m, hm⟩ hI hF hq => ⟨m, hm, fun h' sb => ⟨.ref acc, H', hI.turned (t' := s'.toks) (fun b o hb e => sb.extBut b o hb e) hF.1 hF.2.1 hF.2.2.2.1 hF.2.2.2.2.1 hF.2.2.2.2.2, rfl, hq⟩⟩
theorem ps_setc {i : Nat} {y : Str} {py spos : Pos} (hN : X.N.Nodup) (hyi : X.N[i]? = some y) (hy : Loc X.env.scope y) (hi : PI X target iter wi) (hg : ∀ pins s H fp, PG (cxComp X N scope cl pins s H fp) target g) (hif : ∀ pins s H fp, PIf (cxComp X N scope cl pins s H fp) ifs c) (he : ∀ pins s H fp, PE (cxComp X N scope cl pins s H fp) elt te)
    (hsw : swapsWith (.ListComp elt [⟨target, iter, ifs, 0⟩] scope pos) (some (.Name y py)) spos.line X.env = pure true := by rfl)
    (hc : X.calm = true := by rfl) (hcl : closOf X.env scope.names = some cl := by rfl) (hlen : N.length = nt + fr.length := by rfl) (hB : freeB X N nt scope fr 0 = true := by rfl)
    (hcell : ∀ y ∈ scope.names, y.2 ≠ .cell := by decide +kernel) (hkind : scope.kind = .function := by rfl) (hnames : ∀ y ∈ scope.names, y.2 = .local → scope.names.lookup y.1 = some .local := by decide +kernel)
    (hs : ∀ x, foldedSetIterable iter X.env x = pure x := by intro _; rfl) (hf : X.fn y = true ∨ X.env.scope.names.lookup y = some .local := by first | exact .inl rfl | exact .inr rfl | assumption) :
    PS X (.Assign [.Name y py] (.ListComp elt [⟨target, iter, ifs, 0⟩] scope pos) spos) (tAsg (tComp wi nt fr g c te) (gName i)) := by
  intro pins s σ H D I h
  rw [exec_Assign_Name_used _ _ _ _ hsw]
  refine wpAny_bind (wpAny_standAt (wpAny_bind ?_))
  show wpAny _ X.A (do let _ ← comprehension (.ListComp elt [⟨target, iter, ifs, 0⟩] scope pos) scope X.env _ (newList []) false (eval iter X.env) (some (assign (.Name y py) X.env))) _ _ s
  refine wpAny_bind (wpAny_mono (wpAny_comprehension_free (use := some (assign (.Name y py) X.env)) (Q := fun _ s' => SP X pins D .next s') rfl hs (closureFor_of hcl) hkind hnames (thn (hi pins s σ H _ I h) fun xv s1 h1 => thn h1 fun itv s2 h2 => ?_)) (fun _ s' hq => wpAny_pure (wpAny_pure hq)) fun _ _ e => e)
  refine comp_block (Q := fun x H1 => gName i x σ H1 D.nx) (RR := fun acc C => compPost (model X.prog X.w) X.A X.xe (some (assign (.Name y py) X.env)) (fun _ s' => SP X pins D .next s') acc C) hc (CompNames.of hcl hlen hB hcell hkind) hcell hg hif he h2 fun acc C s' H' ⟨m, hm⟩ hI hF hq => ?_
  show wpAny _ X.A (assign (.Name y py) X.env (.ref acc)) _ _ _
  refine wpAny_assign_Name (store_ok2 hI hN hyi hy (v := .ref acc) rfl (fun s3 I3 ⟨a, sb, ha⟩ => ?_) hf)
  have hne : C ≠ a := by
    rcases ha with rfl | ha
    · exact hF.2.1
    · exact fun z => hF.2.2.2.2.1 y a ha z.symm
  refine ⟨m, hm.sameBut sb hne, fun h' sb' => ⟨_, H', I3.turned (t' := s3.toks) (fun b o hb e => sb'.extBut b o hb e) hF.1 hF.2.1 hF.2.2.2.1 hF.2.2.2.2.1 hF.2.2.2.2.2, hq⟩⟩
end
structure ItemsOf (J : It) (xs : List V) (L : Hp → Prop) : Prop where
  go : ∀ i H, L H → i < xs.length → J.go i H
  yld : ∀ i H x H', L H → i < xs.length → J.yld i H x H' → H' = H ∧ xs[i]? = some x
  stop : ∀ H, L H → J.stop xs.length H
def rangeV (lo : Int) (n : Nat) : List V := (List.range n).map fun i : Nat => V.int (lo + (i : Int))
theorem items_range {lo : Int} {n : Nat} : ItemsOf (Itr lo n) (rangeV lo n) (fun _ => True) :=
  ⟨fun i H _ hi => by show i < n; simpa [rangeV] using hi, fun i H x H' _ hi y => ⟨y.1, by
    have hi : i < n := by simpa [rangeV] using hi
    rw [y.2]; simp [rangeV, hi]⟩, fun H _ => by show n ≤ _; simp [rangeV]⟩
def CompW (xs : List V) (nt : Nat) (fvs : St) (Pv : Nat → List V → Hp → Prop) : Nat → Nat → St → List V → Hp → Prop := fun i m σ' ys H' =>
  m = xs.length - i ∧ i ≤ xs.length ∧ Pv i ys H' ∧ ∃ tv : List (Option V), tv.length = nt ∧ σ' = tv ++ fvs
theorem CompW.next {xs : List V} {nt : Nat} {fvs : St} {Pv : Nat → List V → Hp → Prop} {i : Nat} {tv : List (Option V)} {ys : List V} {H : Hp} (hi : i < xs.length) (p : Pv (i + 1) ys H) (ht : tv.length = nt) :
    ∃ m', m' < xs.length - i ∧ CompW xs nt fvs Pv (i + 1) m' (tv ++ fvs) ys H := ⟨xs.length - (i + 1), by omega, rfl, hi, p, tv, ht, rfl⟩
theorem comp_by {J : It} {xs : List V} {L : Hp → Prop} {σ : St} {H1 : Hp} {nt : Nat} {fr : List Nat} {g : TG} {c : TT} {te : TE} {Q : VK} {acc : Addr} (it : ItemsOf J xs L) (Pv : Nat → List V → Hp → Prop)
    (h0 : Pv 0 [] (upd H1 acc (.lst []))) (hL : ∀ i ys H', i ≤ xs.length → Pv i ys H' → L H' ∧ H' acc = some (.lst ys))
    (turn : ∀ i x tv ys H', xs[i]? = some x → i < xs.length → Pv i ys H' → tv.length = nt → g x (tv ++ fr.map fun i => (σ[i]?).getD none) H' fun σ2 H3 =>
      c σ2 H3 fun b H4 => if b = true then te σ2 H4 fun y H5 => ys.length < sizeLine ∧ H5 acc = some (.lst ys) ∧ ∃ m', m' < xs.length - i ∧ CompW xs nt (fr.map fun i => (σ[i]?).getD none) Pv (i + 1) m' σ2 (ys ++ [y]) (upd H5 acc (.lst (ys ++ [y])))
        else ∃ m', m' < xs.length - i ∧ CompW xs nt (fr.map fun i => (σ[i]?).getD none) Pv (i + 1) m' σ2 ys H4)
    (hd : ∀ ys H', Pv xs.length ys H' → Q (.ref acc) H') : CompGoal J nt fr g c te σ H1 Q acc := by
  refine ⟨CompW xs nt (fr.map fun i => (σ[i]?).getD none) Pv, ⟨xs.length, by simp, Nat.zero_le _, h0, List.replicate nt none, by simp, rfl⟩, ?_⟩
  rintro i m σ' ys H' ⟨rfl, hi, p, tv, htv, rfl⟩
  obtain ⟨l, ha⟩ := hL i ys H' hi p
  refine ⟨ha, ?_⟩
  by_cases hlt : i < xs.length
  · refine .inr ⟨it.go i H' l hlt, fun x H2 y => ?_⟩
    obtain ⟨rfl, hx⟩ := it.yld i H' x H2 l hlt y
    exact turn i x tv ys H2 hx hlt p htv
  · have e : i = xs.length := by omega
    subst e
    exact .inl ⟨it.stop H' l, hd ys H' p⟩
end L2
namespace L2
open PySem PySem.Spec PyProof.Rows PySem.SeqAt
inductive Dt where
  | non | bl (b : Bool) | int (i : Int) | str (x : Str) | lst (xs : List Dt) | tup (xs : List Dt)
mutual
def Rep (K : PySem.W.Frag) (H : Hp) : Dt → V → Prop
  | .non, v => v = .non
  | .bl b, v => v = .bl b
  | .int i, v => v = .int i
  | .str x, v => v = .str x
  | .lst ds, v => ∃ p xs, v = .ref p ∧ SqL K H p xs ∧ Reps K H ds xs
  | .tup ds, v => ∃ p xs, v = .ref p ∧ SqT K H p xs ∧ Reps K H ds xs
def Reps (K : PySem.W.Frag) (H : Hp) : List Dt → List V → Prop
  | [], xs => xs = []
  | d :: ds, xs => ∃ x r, xs = x :: r ∧ Rep K H d x ∧ Reps K H ds r
end
mutual
def depD : Dt → Nat
  | .lst xs => depDs xs + 1
  | .tup xs => depDs xs + 1
  | _ => 0
def depDs : List Dt → Nat
  | [] => 0
  | x :: xs => max (depD x) (depDs xs)
end
theorem Reps.length {K : PySem.W.Frag} {H : Hp} : ∀ {ds : List Dt} {xs : List V}, Reps K H ds xs → ds.length = xs.length
  | [], xs, h => by rw [show xs = [] from by simpa [Reps] using h]; rfl
  | d :: ds, xs, h => by
    obtain ⟨x, r, rfl, _, h2⟩ : ∃ x r, xs = x :: r ∧ Rep K H d x ∧ Reps K H ds r := by simpa [Reps] using h
    simp [Reps.length h2]
theorem Reps.get {K : PySem.W.Frag} {H : Hp} : ∀ {ds : List Dt} {xs : List V} {j : Nat} {d : Dt}, Reps K H ds xs → ds[j]? = some d → ∃ x, xs[j]? = some x ∧ Rep K H d x
  | [], _, _, _, _, e => by simp at e
  | d0 :: ds, xs, j, d, h, e => by
    obtain ⟨x, r, rfl, h1, h2⟩ : ∃ x r, xs = x :: r ∧ Rep K H d0 x ∧ Reps K H ds r := by simpa [Reps] using h
    cases j with
    | zero =>
      have e : d0 = d := by simpa using e
      subst e
      exact ⟨x, rfl, h1⟩
    | succ j =>
      obtain ⟨y, e1, e2⟩ := Reps.get (j := j) h2 (by simpa using e)
      exact ⟨y, by simpa using e1, e2⟩
end L2
namespace L2
open PySem PySem.Spec PyProof.Rows
def isW : V → Bool
  | .int _ => true
  | _ => false
def isIB : V → Bool
  | .int _ => true
  | .bl _ => true
  | _ => false
def isB : V → Bool
  | .bl _ => true
  | _ => false
theorem isW_eq (x : V) : isW x = (isIB x && !isB x) := by cases x <;> rfl
section
variable {K : PySem.W.Frag} {H H' : Hp} {x : V} {n : String}
theorem bt_int (h : TyOf K H x (.type n)) : clsIs K (.type n) (.ty "int") = some (isIB x) := by cases h <;> rfl
theorem bt_bool (h : TyOf K H x (.type n)) : clsIs K (.type n) (.ty "bool") = some (isB x) := by cases h <;> rfl
theorem bt_list (h : TyOf K H x (.type n)) : clsIs K (.type n) (.ty "list") = some (n == "list") := by cases h <;> rfl
theorem bt_tuple (h : TyOf K H x (.type n)) : clsIs K (.type n) (.ty "tuple") = some (n == "tuple") := by cases h <;> rfl
end
theorem atI_0 {α : Type} {c : α} {cs : List α} : atI (c :: cs) (0 : Int) = some c := atI_nat (j := 0) rfl
theorem atI_lt {α : Type} {xs : List α} {i : Int} (h0 : 0 ≤ i) (h1 : i < xs.length) : ∃ v, atI xs i = some v ∧ v ∈ xs := by
  obtain ⟨j, rfl⟩ : ∃ j : Nat, i = (j : Int) := ⟨i.toNat, by omega⟩
  have hj : j < xs.length := by omega
  exact ⟨xs[j], atI_nat (by simp [hj]), List.getElem_mem hj⟩
theorem Same.new {H : Hp} {p : Addr} {o : HO} (h : H p = none) : Same H (upd H p o) := fun b u e => by
  rw [upd_ne (ne_of_none e h)]
  exact e
theorem Same.tup {K : PySem.W.Frag} {H H' : Hp} {a : Addr} {xs : List V} (e : Same H H') (h : SqT K H a xs) : SqT K H' a xs := by
  rcases h with (h | ⟨o, h⟩) | h
  · exact .inl (.inl (e _ _ h))
  · exact .inl (.inr ⟨o, e _ _ h⟩)
  · exact .inr h
def Off (p : Addr) (H H' : Hp) : Prop := ∀ b, b ≠ p → H' b = H b
theorem Off.trans {p : Addr} {H H1 H2 : Hp} (a : Off p H H1) (b : Off p H1 H2) : Off p H H2 := fun c h => (b c h).trans (a c h)
theorem Off.upd {p : Addr} {H : Hp} {o : HO} : Off p H (upd H p o) := fun _ h => upd_ne h
theorem small_line {n : Nat} (h : n ≤ 1000000) : n ≤ sizeLine := Nat.le_trans h (by decide)
theorem fnok_of {P : Program} {w : World} {K : PySem.W.Frag} {mg : Str → Option Value} {base : Heap} {CX : CXT} {x : Str} {ps : List Str} {sp : Sp} {k : Nat} {st : Stmt} {N : List Str} {f : Addr} {fd : FuncData}
    (F : Fun K x x st f fd) (S : FnScope N ps (defScope st)) (len : ∀ vs H Q E, sp vs H Q E → vs.length = ps.length)
    (hbody : ∀ (cdv : Value) (A : Around) (outer : List Env) (s : Shared) (H : Hp) (vs : List V) (Q : VK) (E : XK), Room k (A.deeper (envOfC x (defScope st) s.heap.objs.size f cdv)) → sp vs H Q E →
      ∃ t, PSs (cxOf CX P w K mg base N x (defScope st) f cdv A outer s H E).nox (defBody st) t ∧ t { nx := fun _ H' => Q .non H', rt := Q } (start N vs) H) : FnOk P w K mg base CX (k + 1) f fd ps sp := by
  obtain ⟨oc, od, kV, doc, pm, an, cdv, ct, osl, rfl, lk, hcd⟩ := F.ex
  refine fn_of lk hcd S len fun A outer s H vs Q E hr hsp => ?_
  obtain ⟨t, h, q⟩ := hbody cdv A outer s H vs Q E hr hsp
  exact ⟨t, h.nox, q⟩
structure ExcF (B newId initId : String) (bm : List Value) : Prop where
  call : ExcCallFacts B newId initId
  split : splitId newId = some (B, "__new__")
  kind : builtinKind newId = some .builtinFn
  row : Manifest.signature? newId = some ⟨.any, B, B, .cls, [⟨"args", .varPos, false⟩, ⟨"kwargs", .varKw, false⟩]⟩
  hasB : bm.contains (.type B) = true
  hasE : bm.contains (.type "BaseException") = true
  noA : bm.contains (.type "AttributeError") = false
  noN : bm.contains (.type "NameError") = false
  canon : Manifest.canonical newId = Manifest.canonical "BaseException.__new__"
theorem excF_ValueError : ExcF "ValueError" "ValueError.__new__" "ValueError.__init__" [.type "ValueError", .type "Exception", .type "BaseException", .type "object"] :=
  ⟨PySem.F.excBase_ValueError.toExcCallFacts, PySem.F.excBase_ValueError.newSplit, PySem.F.excBase_ValueError.newKind, PySem.F.excBase_ValueError.newRow, PySem.F.excBase_ValueError.hasB, PySem.F.excBase_ValueError.hasBase, PySem.F.excBase_ValueError.noAttr, PySem.F.excBase_ValueError.noName, PySem.F.excBase_ValueError.canon⟩
theorem ExcF.under {B newId initId : String} {bm : List Value} (F : ExcF B newId initId bm) (R : Addr) : ExcF B newId initId (.ref R :: bm) :=
  ⟨F.call, F.split, F.kind, F.row, by rw [List.contains_cons, F.hasB, Bool.or_true], by rw [List.contains_cons, F.hasE, Bool.or_true], by rw [List.contains_cons, F.noA]; rfl, by rw [List.contains_cons, F.noN]; rfl, F.canon⟩
section
variable {prog : Program} {w : World} {M : Model} {A : Around} {E : Value → Shared → Prop} {R : Result → Shared → Prop} {h : Heap} {g : Array GenState} {d : Drawn} {t : Nat} {os : OsState}
variable {nm q : Str} {C N : Addr} {bs bm : List Value} {hdct : Bool} {sn : List Str} {sub : List Value} {ab : Bool} {col : Option Bool} {dd : Option Addr} {k0 k1 k2 k3 k5 : Option Value} {B newId initId : String}
theorem ExcF.has (F : ExcF B newId initId bm) : (Value.ref C :: bm).contains (.type B) = true := by rw [List.contains_cons, F.hasB, Bool.or_true]
theorem exc_check_new (F : ExcF B newId initId bm) {rest : List Value} {Q : Unit → Shared → Prop} (hC : h.get? C = some (excClassObj nm q C N bs bm hdct sn sub ab col dd k0 k1 k2 k3 k5 newId)) (hq : Q () ⟨h, g, d, t, os⟩) :
    wpAny M A (checkBuiltinCall newId ⟨.ref C :: rest, []⟩) Q E ⟨h, g, d, t, os⟩ := by
  have e1 : (Value.ref C :: bm).contains (.type B) = true := F.has
  have e2 := F.call.noStar
  simp only [checkBuiltinCall, F.kind, F.split, F.row]
  repeat (first | refine wpAny_loadPart_at hC ?_ | (refine wpAny_isSubtype_exc hC ?_; rw [e1]) | refine wpAny_staticBase_exc hC ?_ | refine wpAny_madeBy_exc hC ?_ | simp only [bne_self_eq_false, Bool.false_eq_true, if_false] | wp_step)
  exact hq
theorem exc_new (F : ExcF B newId initId bm) {rest : List Value} (hC : h.get? C = some (excClassObj nm q C N bs bm hdct sn sub ab col dd k0 k1 k2 k3 k5 newId))
    (hq : R (.ok (.ret (.ref (h.objs.size + 1)))) ⟨(h.push { cls := .type "tuple", data := .seq rest.toArray }).push { cls := .ref C, data := .fields #[.ref h.objs.size, .none, .none, .none, .bool false, .none] }, g, d, t, os⟩) (hz : rest.length ≤ sizeLine) :
    codeAny (model prog w) A (.builtin newId ⟨.ref C :: rest, []⟩) R ⟨h, g, d, t, os⟩ := by
  have e0 := F.call.ends
  have e1 : (Value.ref C :: bm).contains (.type B) = true := F.has
  have e2 : (Value.ref C :: bm).contains (.type "AttributeError") = false := by rw [List.contains_cons, F.noA]; rfl
  have e3 : (Value.ref C :: bm).contains (.type "NameError") = false := by rw [List.contains_cons, F.noN]; rfl
  refine codeAny_builtinAt F.call.entry ?_
  unfold Builtin.«BaseException.__new__»; refine PySem.wpAt_bind ?_
  show PySem.wpAt _ _ _ (stack >>= _) _ _ _; refine PySem.wpAt_bind (PySem.wpAt_stack fun p below => PySem.wpAt_of_wpAny ?_)
  wp_walk; refine PySem.wpAt_of_wpAny ?_
  rw [F.call.owner]
  repeat (first | with_reducible refine wpAny_madeHere_exc F.canon hC ?_ | with_reducible refine wpAny_loadPart_at hC ?_ | (with_reducible refine wpAny_isSubtype_exc hC ?_; first | rw [e1] | rw [e2] | rw [e3]) | wp_step)
  show R _ _; rw [Heap.size_push]; exact hq
theorem exc_make (F : ExcF B newId initId bm) {rest : List Value} {fI : Addr} {oI : Obj} {Q : Value → Shared → Prop} (hC : h.get? C = some (excClassObj nm q C N bs bm hdct sn sub ab col dd k0 k1 k2 k3 k5 newId))
    (hi : PySem.W.Looks (model prog w) h (typeLookup (.ref C) "__init__") (some (.ref fI))) (hfI : h.get? fI = some oI) (hfc : oI.cls = .type "function")
    (hq : ∀ h', (∀ b o, h.get? b = some o → h'.get? b = some o) → h'.get? (h.objs.size + 1) = some { cls := .ref C, data := .fields #[.ref h.objs.size, .none, .none, .none, .bool false, .none] } → wpAny (model prog w) (A.under (.builtin "type.__call__" ⟨.ref C :: rest, []⟩)) (PySem.call (.ref fI) (.ref (h.objs.size + 1) :: rest)) (fun r s' => r = .none ∧ Q (.ref (h.objs.size + 1)) s') E ⟨h', g, d, t, os⟩) (hz : rest.length ≤ sizeLine) :
    wpAny (model prog w) A (PySem.call (.ref C) rest) Q E ⟨h, g, d, t, os⟩ := by
  have f1 := tc_lookup
  have f2 := tc_bind (.ref C)
  have hT : (⟨h, g, d, t, os⟩ : Shared).TypeIs (.ref C) "type" := ⟨_, hC, rfl⟩
  refine wpAny_call (codeAny_of_tree ?_)
  show wpAny _ _ (callAny (.ref C) _) _ _ _
  repeat (any_goals (first | assumption | with_reducible refine wpAny_loadPart_at hC ?_ | wp_step))
  refine ⟨rfl, codeAny_call_builtin_at (Code.quiet_builtin _ (by decide +kernel)) entry_typeCall (wpAny_check_type_call_sub hC ?_)⟩
  repeat (first | with_reducible refine wpAny_loadPart_at hC ?_ | with_reducible refine wpAny_madeBy_exc hC ?_ | wp_step)
  refine codeAny_call_builtin_code (Code.quiet_builtin _ F.call.quiet) (exc_check_new F hC (exc_new F hC ?_ hz))
  show wpAny _ _ _ _ _ (⟨(h.push { cls := .type "tuple", data := .seq rest.toArray }).push { cls := .ref C, data := .fields #[.ref h.objs.size, .none, .none, .none, .bool false, .none] }, g, d, t, os⟩ : Shared)
  generalize hh2 : (h.push { cls := .type "tuple", data := .seq rest.toArray }).push { cls := .ref C, data := .fields #[.ref h.objs.size, .none, .none, .none, .bool false, .none] } = h2
  have kp : ∀ b o, h.get? b = some o → h2.get? b = some o := fun b o e => by rw [← hh2]; exact Heap.get?_push_of_some _ (Heap.get?_push_of_some _ e)
  have hget : h2.get? (h.objs.size + 1) = some { cls := .ref C, data := .fields #[.ref h.objs.size, .none, .none, .none, .bool false, .none] } := by rw [← hh2]; heap_get
  have htup : h2.get? h.objs.size = some { cls := .type "tuple", data := .seq rest.toArray } := by rw [← hh2]; exact Heap.get?_push_of_some _ (Heap.get?_push_at rfl rfl)
  have hcC : (Value.ref C :: bm).contains (.ref C) = true := by simp
  unfold isInstance
  repeat (first | with_reducible refine wpAny_loadPart_at hget ?_ | (with_reducible refine wpAny_isSubtype_exc (kp _ _ hC) ?_; rw [hcC]) | wp_step)
  show wpAny _ _ (typeLookup (.ref C) _) _ _ _
  refine hi _ _ _ _ kp ?_
  refine wpAny_holding (wpAny_bind ?_)
  unfold bindSpecial; refine wpAny_bind (wpAny_typeOf (T := "function") ⟨_, kp _ _ hfI, hfc⟩ ?_)
  rw [if_pos (by decide)]
  refine wpAny_pure (wpAny_bind (wpAny_mono (hq h2 kp hget) (fun r s' hr => ?_) fun _ _ x => x))
  obtain ⟨rfl, hQ⟩ := hr
  wp_walk
  exact hQ
end
section
variable {prog : Program} {w : World} {A : Around} {E : Value → Shared → Prop} {s : Shared} {K : PySem.W.Frag} {e C : Addr} {oe : Obj} {vs : Array Value} {name : Str} {v : Value}
theorem exc_notCls (hf : oe.data = .fields vs) : PySem.W.notCls oe = true := by
  unfold PySem.W.notCls
  rw [hf]
def exOnly : List Value → Bool
  | .ref _ :: r => exOnly r
  | l => l == [.type "ValueError", .type "Exception", .type "BaseException", .type "object"]
theorem refuse_ve (self : Value) : refuseLoop self "__setattr__" [.type "ValueError", .type "Exception", .type "BaseException", .type "object"] = pure () := by kernel_rfl
theorem refuse_ex (self : Value) : ∀ {l : List Value}, exOnly l = true → refuseLoop self "__setattr__" l = pure ()
  | .ref c :: r, h => by
    rw [refuseLoop_ref]
    exact refuse_ex self h
  | [], h => by cases h
  | .type n :: r, h => by
    have z : (Value.type n :: r) = [.type "ValueError", .type "Exception", .type "BaseException", .type "object"] := eq_of_beq h
    rw [z]
    exact refuse_ve self
  | .none :: r, h => by cases (eq_of_beq h : (Value.none :: r) = _)
  | .bool _ :: r, h => by cases (eq_of_beq h : (_ :: r) = _)
  | .int _ _ :: r, h => by cases (eq_of_beq h : (_ :: r) = _)
  | .str _ _ :: r, h => by cases (eq_of_beq h : (_ :: r) = _)
  | .bytes _ _ :: r, h => by cases (eq_of_beq h : (_ :: r) = _)
  | .float _ _ :: r, h => by cases (eq_of_beq h : (_ :: r) = _)
  | .builtin _ :: r, h => by cases (eq_of_beq h : (_ :: r) = _)
  | .ellipsis :: r, h => by cases (eq_of_beq h : (_ :: r) = _)
  | .notImplemented :: r, h => by cases (eq_of_beq h : (_ :: r) = _)
theorem exOnly_has : ∀ {l : List Value}, exOnly l = true → l.contains (.type "object") = true ∧ l.isEmpty = false
  | .ref c :: r, h => ⟨by rw [List.contains_cons, (exOnly_has (l := r) h).1, Bool.or_true], rfl⟩
  | [], h => by cases h
  | .type n :: r, h => by
    have z : (Value.type n :: r) = [.type "ValueError", .type "Exception", .type "BaseException", .type "object"] := eq_of_beq h
    rw [z]
    exact ⟨by decide, rfl⟩
  | .none :: r, h => by cases (eq_of_beq h : (Value.none :: r) = _)
  | .bool _ :: r, h => by cases (eq_of_beq h : (_ :: r) = _)
  | .int _ _ :: r, h => by cases (eq_of_beq h : (_ :: r) = _)
  | .str _ _ :: r, h => by cases (eq_of_beq h : (_ :: r) = _)
  | .bytes _ _ :: r, h => by cases (eq_of_beq h : (_ :: r) = _)
  | .float _ _ :: r, h => by cases (eq_of_beq h : (_ :: r) = _)
  | .builtin _ :: r, h => by cases (eq_of_beq h : (_ :: r) = _)
  | .ellipsis :: r, h => by cases (eq_of_beq h : (_ :: r) = _)
  | .notImplemented :: r, h => by cases (eq_of_beq h : (_ :: r) = _)
def excOver (K : PySem.W.Frag) (C : Addr) : Bool := (PySem.W.clsIn K C).any fun cd => exOnly cd.mro
theorem osa_exc {ox : Obj} {od : Option Obj} {tk : Tok} {R : Result → Shared → Prop} (X : K.In s.heap) (I : PySem.W.InstAt s.heap e ox C od) (hp : excOver K C = true) (ht : PySem.W.takerIn K C name = some none)
    (h : ∀ b, wpAny (model prog w) A.in1 (Builtin.ObjectAttr.storeInOwnDict (.ref e) (.ref C) (.str name tk) name v b)
      (fun fin s' => match fin with | .done f => R (.ok f) s' | .again c' => c'.quiet = true ∧ codeAny (model prog w) A c' R s') (fun x s' => R (.error x) s') s) :
    codeAny (model prog w) A (.call (.builtin "object.__setattr__") ⟨[.ref e, .str name tk, v], []⟩) R s := by
  have SF := PySem.F.store_object
  obtain ⟨cd, hc, ho⟩ := PySem.W.any_some hp
  obtain ⟨hasO, ne⟩ := exOnly_has ho
  have sub : PySem.W.Looks (model prog w) s.heap (isInstance (.ref e) (.type "object")) true := I.type.andThen (PySem.W.looks_mroIn X (by unfold PySem.W.mroIn; rw [hc, Option.bind_some, if_neg (by rw [ne]; decide), hasO]))
  refine codeAny_call_builtin SF.slot.plain SF.entry (@PySem.W.check_slot (model prog w) _ _ s "object.__setattr__" "object" "__setattr__" (.ref e) [.str name tk, v] [] _ SF.kind SF.split sub (SF.args (.ref e) (.str name tk) v) ?_)
  obtain ⟨attr, ha, hr⟩ := Option.bind_eq_some_iff.mp ht
  have hm : PySem.W.Looks (model prog w) s.heap (mroOf (.ref C)) cd.mro := (PySem.W.looks_clsIn X hc).andThen .now
  have L3 : PySem.W.Looks (model prog w) s.heap (Builtin.ObjectAttr.storeTaker? attr) none := by
    cases attr with
    | none => exact .now
    | some a =>
      obtain ⟨b, hb, q⟩ := Option.map_eq_some_iff.mp hr
      refine (PySem.W.looks_takesIn X hb).andThen ?_
      cases b with
      | true => cases q
      | false => exact .now
  rw [PySem.W.osa_eq, refuse_eq]
  refine wpAny_bind (wpAny_bind (I.type.here (wpAny_bind (hm.here ?_))))
  rw [refuse_ex _ ho]
  refine wpAny_pure (wpAny_bind (I.type.here (wpAny_bind ((PySem.W.looks_findIn X ha).here (wpAny_bind (L3.here ?_))))))
  exact h _
theorem exc_set0 {Q : Unit → Shared → Prop} (X : K.In s.heap) (he : s.heap.get? e = some oe) (hc : oe.cls = .ref C) (hd : oe.dict = none) (hf : oe.data = .fields vs)
    (hs : PySem.W.findIn K (.ref C) "__setattr__" = some (some (.builtin "object.__setattr__"))) (hp : excOver K C = true) (ht : PySem.W.takerIn K C name = some none) (hh : PySem.W.hasDictIn K C = true)
    (h : ∀ h', (∀ b o, b ≠ e → s.heap.get? b = some o → h'.get? b = some o) → h'.get? e = some { oe with dict := some s.heap.objs.size } → h'.Ns1 s.heap.objs.size (fun y => if y = name then some v else none) → Q () { s with heap := h', toks := s.toks + 2 }) :
    wpAny (model prog w) A (setAttr (.ref e) name v) Q E s := by
  have J : PySem.W.InstAt s.heap e oe C none := ⟨he, hc, exc_notCls hf, by rw [hd]; trivial⟩
  refine PySem.W.set_plain X J hs (osa_exc (s := { s with toks := s.toks + 1 }) X J hp ht fun b => ?_)
  obtain ⟨cd, hcd, hdd⟩ := PySem.W.any_some hh
  obtain ⟨oc, od, odt, osl⟩ := oe
  simp only at hc hd hf
  subst hc hd hf
  refine wpAny_bind (wpAny_pure (wpAny_bind (wpAny_bind (wpAny_loadPart he (wpAny_bind (PySem.W.Looks.here (s := { s with toks := s.toks + 1 }) (PySem.W.looks_clsIn X hcd) ?_))))))
  rw [hdd]
  show wpAny (model prog w) A.in1 (alloc { cls := .type "dict", data := .dict #[] } >>= fun d => (update e fun o => { o with dict := some d }) >>= fun _ => dictMade (.ref C) e d) _ _ _
  have hlt : e < s.heap.objs.size := Heap.lt_size he
  have hne : e ≠ s.heap.objs.size := Nat.ne_of_lt hlt
  refine wpAny_bind (wpAny_alloc (wpAny_bind (wpAny_update (Heap.get?_push_of_some _ he) ?_)))
  show wpAny (model prog w) A.in1 (pure (some s.heap.objs.size)) _ _ _
  refine wpAny_pure (wpAny_bind (wpAny_pure (wpAny_bind ?_)))
  have e0 : ((s.heap.push { cls := .type "dict", data := .dict #[] }).update e fun o => { o with dict := some s.heap.objs.size }).get? s.heap.objs.size = some { cls := .type "dict", data := .dict #[] } :=
    (Heap.get?_update_other _ _ hne).trans (Heap.get?_push_size s.heap rfl)
  have e1 : ((s.heap.push { cls := .type "dict", data := .dict #[] }).update e fun o => { o with dict := some s.heap.objs.size }).get? e = some { cls := .ref C, dict := some s.heap.objs.size, data := .fields vs, slots := osl } :=
    Heap.get?_update_self _ (Heap.get?_push_of_some _ he) rfl
  have n0 : ((s.heap.push { cls := .type "dict", data := .dict #[] }).update e fun o => { o with dict := some s.heap.objs.size }).Ns s.heap.objs.size (fun _ => none) :=
    ⟨_, #[], _, e0, rfl, (fun y hy => absurd hy (by simp)), fun _ => rfl⟩
  refine wpAny_nsSet1 (Heap.Ns1.of_empty n0) fun h' hn2 hs2 => ?_
  obtain ⟨oD, esD, epD, hoD, hdD, hcD⟩ := hn2.count (PySem.Within.cons (ns := []) name v (fun y hy => absurd rfl hy))
  refine wpAny_bind (wpAny_lookBehind hoD (by rw [hdD]; exact pastItsLine_dict (Nat.le_trans hcD (by show 1 ≤ _; decide))) ?_)
  refine wpAny_pure (h h' (fun b o hb q => ?_) ((hs2.2 _ hne).trans e1) hn2)
  rw [hs2.2 b (Nat.ne_of_lt (Heap.lt_size q))]
  exact (Heap.get?_update_other _ _ (Ne.symm hb)).trans (Heap.get?_push_of_some _ q)
theorem exc_set1 {dx : Addr} {mA : Str → Option Value} {ns : List Str} {Q : Unit → Shared → Prop} (X : K.In s.heap) (he : s.heap.get? e = some oe) (hc : oe.cls = .ref C) (hd : oe.dict = some dx) (hf : oe.data = .fields vs) (hn : s.heap.Ns1 dx mA) (hne : dx ≠ e)
    (hs : PySem.W.findIn K (.ref C) "__setattr__" = some (some (.builtin "object.__setattr__"))) (hp : excOver K C = true) (ht : PySem.W.takerIn K C name = some none) (hh : PySem.W.hasDictIn K C = true) (hw : PySem.Within mA ns) (hsz : ns.length ≤ 1000)
    (h : ∀ h', Heap.SameBut dx s.heap h' → h'.Ns1 dx (fun y => if y = name then some v else mA y) → Q () { s with heap := h', toks := s.toks + 2 }) :
    wpAny (model prog w) A (setAttr (.ref e) name v) Q E s := by
  obtain ⟨od, ho, _⟩ := lookIn_ns hn
  have J : PySem.W.InstAt s.heap e oe C (some od) := ⟨he, hc, exc_notCls hf, by rw [hd]; exact ho⟩
  refine PySem.W.set_plain X J hs (osa_exc (s := { s with toks := s.toks + 1 }) X J hp ht fun b => ?_)
  obtain ⟨cd, hcd, hdd⟩ := PySem.W.any_some hh
  obtain ⟨oc, od', odt, osl⟩ := oe
  simp only at hc hd hf
  subst hc hd hf
  refine wpAny_bind (wpAny_pure (wpAny_bind (wpAny_bind (wpAny_loadPart he (wpAny_bind (PySem.W.Looks.here (s := { s with toks := s.toks + 1 }) (PySem.W.looks_clsIn X hcd) ?_))))))
  rw [hdd]
  refine wpAny_pure (a := some dx) (wpAny_bind (wpAny_pure (wpAny_bind (wpAny_nsSet1 (s := { s with toks := s.toks + 1 }) hn fun h' hn2 hs2 => ?_))))
  obtain ⟨oD, esD, epD, hoD, hdD, hcD⟩ := hn2.count (PySem.Within.cons name v hw)
  refine wpAny_bind (wpAny_lookBehind hoD (by rw [hdD]; exact pastItsLine_dict (Nat.le_trans hcD (by rw [List.length_cons]; have := sizeLine_eq; omega))) ?_)
  exact wpAny_pure (h h' hs2 hn2)
theorem exc_get {dx : Addr} {mA : Str → Option Value} {expr : Bool} {Q : Value → Shared → Prop} (X : K.In s.heap) (he : s.heap.get? e = some oe) (hc : oe.cls = .ref C) (hd : oe.dict = some dx) (hf : oe.data = .fields vs) (hn : s.heap.Ns1 dx mA)
    (hga : PySem.W.findIn K (.ref C) "__getattribute__" = some (some (.builtin "BaseException.__getattribute__"))) (hgb : PySem.W.findIn K (.ref C) "__getattr__" = some none) (hmb : PySem.W.mroIn K C (.type "BaseException") = some true)
    (hh : PySem.W.hasDictIn K C = true) (ha : PySem.W.findIn K (.ref C) name = some none) (hv : mA name = some v) (hv' : PySem.W.handedIn v = true) (h : Q v { s with toks := s.toks + 1 }) :
    wpAny (model prog w) A (getAttr (.ref e) name expr) Q E s := by
  obtain ⟨od, ho, hl⟩ := lookIn_ns hn
  have J : PySem.W.InstAt s.heap e oe C (some od) := ⟨he, hc, exc_notCls hf, by rw [hd]; exact ho⟩
  have hfo : PySem.W.findObj K C (some od) name = some (.value v) := PySem.W.findObj_own hh ha rfl (by rw [hl, hv])
  obtain ⟨hp, g, d, t, os⟩ := s
  have L0 := J.type (M := model prog w)
  have L1 := PySem.W.looks_findIn (M := model prog w) X hga
  have L2 := PySem.W.looks_find (M := model prog w) X J hfo
  have L3 := PySem.W.looks_findIn (M := model prog w) X hgb
  have hx0 : (expr && onTheHeap (Value.builtin "BaseException.__getattribute__")) = false := by cases expr <;> rfl
  have sub : PySem.W.Looks (model prog w) hp (isInstance (.ref e) (.type "BaseException")) true := J.type.andThen (PySem.W.looks_mroIn X hmb)
  unfold getAttr getAttrBy
  refine wpAny_bind (wpAny_mkText (wpAny_holding (wpAny_bind (L0.at (wpAny_bind (L1.at ?_))))))
  show wpAny _ _ (getAttrByItsOwn (.ref e) (.str name t) (.ref C) (.builtin "BaseException.__getattribute__") true expr) _ _ _
  unfold getAttrByItsOwn
  refine wpAny_bind (show wpAny _ _ (typeLookup (.ref C) "__getattr__") _ _ _ from L3.at ?_)
  refine wpAny_bind (wpAny_attempt (wpAny_holding ?_))
  unfold callGetattribute
  rw [hx0, if_neg Bool.false_ne_true]
  unfold boundAndCalled
  rw [PySem.F.excAttr_ValueError.ga.bind (.ref e)]
  refine wpAny_bind (wpAny_pure (wpAny_call (codeAny_call_builtin PySem.F.excAttr_ValueError.ga.plain PySem.F.entry_bexc_ga (@PySem.W.check_slot (model prog w) _ _ _ "BaseException.__getattribute__" "BaseException" "__getattribute__" (.ref e) [.str name t] [] _ (by decide +kernel) (by decide +kernel) sub (PySem.F.args_bexc_ga _ _) ?_))))
  refine wpAny_bind (wpAny_pure (wpAny_bind (wpAny_pure (wpAny_bind (L0.at (wpAny_bind (L2.at (wpAny_pure ?_))))))))
  show wpAny _ _ (handedOut v) _ _ _
  rw [PySem.W.handedOut_of hv']; exact wpAny_pure h
end
def excO (e C : Addr) (dx : Option Addr) : HO := .ext fun h => ∃ t sl, h.get? e = some { cls := .ref C, dict := dx, data := .fields #[.ref t, .none, .none, .none, .bool false, .none], slots := sl }
def dctO (dx : Addr) (fs : List (Str × V)) : HO := .ext fun h => ∃ mA, h.Ns1 dx mA ∧ (∀ f, RelO (fs.lookup f) (mA f)) ∧ PySem.Within mA (fs.map (·.1)) ∧ fs.length ≤ 100
section
variable {P : Program} {w : World} {H : Hp} {h : Heap} {e C dx : Addr}
theorem excO_ok {do' : Option Addr} {t : Addr} {sl : Array (Option Value)} (q : h.get? e = some { cls := .ref C, dict := do', data := .fields #[.ref t, .none, .none, .none, .bool false, .none], slots := sl }) : ObjOk P w H h e (excO e C do') :=
  ⟨⟨t, sl, q⟩, ⟨_, q⟩, fun h1 h2 ⟨t, sl, z⟩ k => ⟨t, sl, k _ z⟩⟩
theorem dctO_ok {fs : List (Str × V)} {mA : Str → Option Value} (n : h.Ns1 dx mA) (r : ∀ f, RelO (fs.lookup f) (mA f)) (wi : PySem.Within mA (fs.map (·.1))) (hl : fs.length ≤ 100) : ObjOk P w H h dx (dctO dx fs) := by
  refine ⟨⟨mA, n, r, wi, hl⟩, ?_, fun h1 h2 ⟨mA, n, r, wi, hl⟩ k => ⟨mA, n.at k, r, wi, hl⟩⟩
  obtain ⟨o, _, _, q, _⟩ := n
  exact ⟨o, q⟩
end
structure ExcC (K : PySem.W.Frag) (C f : Addr) (bm : List Value) : Prop where
  obj : ∃ nm q N bs hdct sn sub ab col dd k0 k1 k2 k3 k5, K.lookup C = some (excClassObj nm q C N bs bm hdct sn sub ab col dd k0 k1 k2 k3 k5 "ValueError.__new__")
  bm_ok : ExcF "ValueError" "ValueError.__new__" "ValueError.__init__" bm
  init : PySem.W.findIn K (.ref C) "__init__" = some (some (.ref f))
  fn : ∃ o, K.lookup f = some o ∧ o.cls = .type "function"
  kp : PySem.W.keepIn K (.ref C) = true
structure ExcS (K : PySem.W.Frag) (C : Addr) : Prop where
  sa : PySem.W.findIn K (.ref C) "__setattr__" = some (some (.builtin "object.__setattr__"))
  po : excOver K C = true
  hd : PySem.W.hasDictIn K C = true
section
variable {X : Cx} {CX : CXT} {k m : Nat} {f C : Addr} {fd : FuncData} {ps : List Str} {sp : Sp} {E : XK} {x : Str} {p pos : Pos} {e : Expr} {es : List Expr} {t : TA} {bm : List Value}
def sExc (K : PySem.W.Frag) (ta tv : TE) (f : Str) : TS := fun D σ H => tv σ H fun y H1 => ta σ H1 fun x H2 => ∃ a C, x = .ref a ∧ ExcS K C ∧ PySem.W.takerIn K C f = some none ∧
  ((H2 a = some (excO a C none) ∧ ∀ dx, H2 dx = none → D.nx σ (upd (upd H2 dx (dctO dx [(f, y)])) a (excO a C (some dx)))) ∨
   ∃ dx fs, H2 a = some (excO a C (some dx)) ∧ H2 dx = some (dctO dx fs) ∧ dx ≠ a ∧ fs.length < 100 ∧ D.nx σ (upd H2 dx (dctO dx (putF f y fs))))
theorem ps_exc {o value : Expr} {f : Str} {ta tv : TE} {pos' : Pos} (ha : PE X o ta) (hv : PE X value tv) (hs : swapsWith value (some (.Attribute o f pos')) pos.line X.env = pure false := by rfl) : PS X (.Assign [.Attribute o f pos'] value pos) (sExc X.K ta tv f) := by
  intro pins s σ H D I h
  refine plainObj_wpAny_Assign_Attribute (thn (hv pins s σ H _ I h) fun u s1 ⟨y, H1, I1, ry, q⟩ => thn (ha pins s1 σ H1 _ I1 q) fun ov s2 ⟨x, H2, I2, rx, a, C, ex, S, tk, q2⟩ => ?_) hs
  subst ex
  obtain rfl : ov = Value.ref a := rx
  rcases q2 with ⟨ho, q3⟩ | ⟨dx, fs, ho, hd, hne, hl, q3⟩
  · obtain ⟨⟨t, sl, ge⟩, _, _⟩ : ObjOk X.prog X.w H2 s2.heap a (excO a C none) := I2.hok a _ ho
    refine exc_set0 I2.kIn ge rfl rfl rfl S.sa S.po tk S.hd fun h' kp ge' n' => ?_
    have hfr : H2 s2.heap.objs.size = none := I2.hok.fresh (Nat.le_refl _)
    have nas : a ≠ s2.heap.objs.size := ne_of_none ho hfr
    have other : ∀ b, b ≠ a → b ≠ s2.heap.objs.size → (upd (upd H2 s2.heap.objs.size (dctO s2.heap.objs.size [(f, y)])) a (excO a C (some s2.heap.objs.size))) b = H2 b := fun b h1 h2 => by rw [upd_ne h1, upd_ne h2]
    have nlt : ∀ b o, s2.heap.get? b = some o → b ≠ s2.heap.objs.size := fun b o z => Nat.ne_of_lt (Heap.lt_size z)
    have na : ∀ b, H2 b = none → b ≠ a := fun b z q => by rw [q, ho] at z; cases z
    have ext_ne : ∀ b u, H2 b = some u → u ≠ excO a C none → b ≠ a := fun b u z d q => by
      rw [q, ho] at z
      exact d (Option.some.inj z).symm
    refine ⟨σ, _, I2.un ⟨fun b o z n _ _ => kp b o (na b n) z, fun b o z n _ _ => ⟨o.slots, kp b o (na b n) z⟩, fun b o z n _ => by rw [other b (na b n) (nlt b o z)]; exact n, fun b o z _ => ?_, fun b xs z => ?_, fun b o u z => ?_, fun b ps z => ⟨#[], ?_⟩⟩ (fun b u z => ?_), q3 _ hfr⟩
    · by_cases hb : b = a
      · exact ⟨_, by rw [hb]; exact ge'⟩
      · exact ⟨o, kp b o hb z⟩
    · rw [other b (ext_ne b _ z (by intro q; cases q)) (ne_of_none z hfr)]; exact z
    · rw [other b (ext_ne b _ z (by intro q; cases q)) (ne_of_none z hfr)]; exact z
    · rw [other b (ext_ne b _ z (by intro q; cases q)) (ne_of_none z hfr), z]; simp
    · by_cases hb : b = a
      · subst hb
        rw [upd_same] at z
        cases z
        exact excO_ok ge'
      · by_cases hb2 : b = s2.heap.objs.size
        · subst hb2
          rw [upd_ne hb, upd_same] at z
          cases z
          refine dctO_ok n' (fun g => ?_) (fun g hg => ?_) (by simp)
          · show RelO ([(f, y)].lookup g) (if g = f then some u else none)
            by_cases zz : g = f
            · rw [if_pos zz, zz]; simpa [List.lookup_cons, RelO] using ry
            · have : (g == f) = false := by simpa using zz
              rw [if_neg zz]
              simp [List.lookup_cons, this, RelO]
          · by_cases zz : g = f
            · simp [zz]
            · exact absurd (show (if g = f then some u else none) = none by rw [if_neg zz]) hg
        · rw [other b hb hb2] at z
          refine (I2.hok b u z).stay (fun c v hc q => kp c v ?_ q) (fun c q => ?_) fun c xs q => ?_
          · rcases hc with rfl | hc
            · exact hb
            · exact ext_ne c _ hc (by intro q; cases q)
          · rw [other c (ext_ne c _ q (by intro q; cases q)) (ne_of_none q hfr)]; exact q
          · rw [other c (ext_ne c _ q (by intro q; cases q)) (ne_of_none q hfr)]; exact q
  · obtain ⟨⟨t, sl, ge⟩, _, _⟩ : ObjOk X.prog X.w H2 s2.heap a (excO a C (some dx)) := I2.hok a _ ho
    obtain ⟨⟨mA, n, r, wi, hl'⟩, _, _⟩ : ObjOk X.prog X.w H2 s2.heap dx (dctO dx fs) := I2.hok dx _ hd
    refine exc_set1 I2.kIn ge rfl rfl rfl n hne S.sa S.po tk S.hd wi (by rw [List.length_map]; omega) fun h' sb n' => ?_
    refine ⟨σ, _, I2.write (x := dx) (e := dx) (by rw [hd]; trivial) (.inl rfl) (fun b o hb z => (sb.2 b hb).trans z) (let ⟨o, _, _, z, _⟩ := n'; ⟨o, z⟩) (dctO_ok n' (fun g => ?_) (fun g hg => ?_) ?_), q3⟩
    · show RelO ((putF f y fs).lookup g) (if g = f then some u else mA g)
      rw [lookup_putF]
      by_cases z : g = f
      · rw [if_pos z, if_pos z]; exact ry
      · rw [if_neg z, if_neg z]; exact r g
    · by_cases z : g = f
      · rw [z]; exact (keys_putF f y fs).1
      · refine (keys_putF f y fs).2 g (wi g fun z2 => hg ?_)
        show (if g = f then some u else mA g) = none
        rw [if_neg z]; exact z2
    · have := length_putF f y fs; omega
structure ExcG (K : PySem.W.Frag) (C : Addr) : Prop where
  ga : PySem.W.findIn K (.ref C) "__getattribute__" = some (some (.builtin "BaseException.__getattribute__"))
  gb : PySem.W.findIn K (.ref C) "__getattr__" = some none
  mb : PySem.W.mroIn K C (.type "BaseException") = some true
  hd : PySem.W.hasDictIn K C = true
end
section
variable {M : Model} {A : Around} {E : Value → Shared → Prop} {s : Shared} {base : Heap} {env : Env} {outer : List Env} {L e : Addr} {oe : Obj} {vs : Array Value}
structure Left (fr : List Addr) (h h' : Heap) (e : Addr) (oe : Obj) (vs : Array Value) (T : Addr) : Prop where
  keep : ∀ b o, b ≠ e → b ∉ fr → h.get? b = some o → (∀ z, vs[1]? = some (.ref z) → b ≠ z) → h'.get? b = some o
  slot : ∀ b o, b ∈ fr → h.get? b = some o → ∃ sl, h'.get? b = some { o with slots := sl }
  new : h.objs.size ≤ T
  ent : ∃ oT ts, h'.get? T = some oT ∧ oT.data = .fields ts ∧ ts[3]? = some .none
  obj : h'.get? e = some { oe with data := .fields (vs.setIfInBounds 1 (.ref T)) }
theorem noFrame (hl : s.heap.FunFrames base (env :: outer)) (he : s.heap.get? e = some oe) (hd : oe.data = .fields vs) : e ∉ frs (env :: outer) := fun hm => by
  obtain ⟨_, o, ho, hn⟩ := hl.mem hm
  rw [he] at ho; cases ho
  exact hn vs hd
theorem leave_tail {head : Value} {hadNext : Bool} {Q : Unit → Shared → Prop} (hfr : A.frames = some (env :: outer)) (hl : s.heap.FunFrames base (env :: outer)) (hf : env.frame = some L) (he : s.heap.get? e = some oe) (hd : oe.data = .fields vs) (hsz : 1 < vs.size)
    (h : ∀ h' T, Left (frs (env :: outer)) s.heap h' e oe vs T → Q () { s with heap := h' }) :
    wpAny M A (do let a ← frameOf env; let pl ← entryPlaceOf L hadNext; let b ← EntryCells.newEntry head a .none (rawInt L) .none pl; setField (.ref e) 1 b) (fun _ s' => wpAny M A (setFlight (.ref e) none) Q E s') E s := by
  have hne := noFrame hl he hd
  refine wpAny_bind (wpAny_frameOf_fun hfr hl hf fun g hg => wpAny_bind (wpAny_entryPlaceOf fun pl hpl => ?_))
  unfold EntryCells.newEntry newFields
  refine wpAny_bind (wpAny_newObj_type ?_ (hpl.sizeOk5 _ _ _ _ _))
  have he1 : g.get? e = some oe := (hg.2.1 e hne).trans he
  have gsz : s.heap.objs.size ≤ g.objs.size := by
    have := hg.1
    omega
  generalize hT : ({ cls := .type "traceback", data := .fields ([head, .ref L, .none, rawInt L, .none] ++ (if pl.isEmpty then List.replicate 6 Value.none else pl)).toArray } : Obj) = oT
  obtain ⟨ts, hts, h4⟩ : ∃ ts : Array Value, oT.data = .fields ts ∧ 3 < ts.size := by
    rw [← hT]
    exact ⟨_, rfl, by simp only [List.size_toArray, List.length_append, List.length_cons, List.length_nil]; omega⟩
  have fresh : ∀ b o, g.get? b = some o → g.objs.size ≠ b := fun b o z => Nat.ne_of_gt (Heap.lt_size z)
  have he2 : (g.push oT).get? e = some oe := Heap.get?_push_of_some _ he1
  have hTe : g.objs.size ≠ e := fresh e oe he1
  refine wpAny_setField he2 hd hsz ?_
  have hd3 := Obj.data_mapFields hd (·.setIfInBounds 1 (Value.ref g.objs.size))
  have he3 := Heap.get?_update_self (Obj.mapFields (·.setIfInBounds 1 (Value.ref g.objs.size))) he2 (Obj.isFreed_of_fields hd3)
  have hfr' : oT.isFreed = false := Obj.isFreed_of_fields hts
  have hT3 : ((g.push oT).update e (Obj.mapFields (·.setIfInBounds 1 (Value.ref g.objs.size)))).get? g.objs.size = some oT := (Heap.get?_update_other _ _ (Ne.symm hTe)).trans (Heap.get?_push_size g hfr')
  unfold setFlight
  refine wpAny_bind (wpAny_field he3 hd3 (x := .ref g.objs.size) (by simp [hsz]) ?_)
  rw [if_pos (show (Value.ref g.objs.size != Value.none) = true from by simp)]
  have keepAll : ∀ b o, b ≠ e → g.get? b = some o → (((g.push oT).update e (Obj.mapFields (·.setIfInBounds 1 (Value.ref g.objs.size)))).update g.objs.size (Obj.mapFields (·.setIfInBounds 3 ((none : Option Addr).elim Value.none fun f => rawInt f)))).get? b = some o := fun b o hb z => by
    rw [Heap.get?_update_other _ _ (fresh b o z), Heap.get?_update_other _ _ (Ne.symm hb)]
    exact Heap.get?_push_of_some _ z
  refine wpAny_setField hT3 hts h4 (h _ g.objs.size ⟨fun b o hb hn z _ => keepAll b o hb ((hg.2.1 b hn).trans z), fun b o hb z => ?_, gsz, ?_, ?_⟩)
  · obtain ⟨sl, z2⟩ := hg.2.2 b o z
    exact ⟨sl, keepAll b _ (fun q => hne (by rw [← q]; exact hb)) z2⟩
  · exact ⟨_, _, Heap.get?_update_self _ hT3 (Obj.isFreed_of_fields (Obj.data_mapFields hts _)), Obj.data_mapFields hts _, by simp [h4]⟩
  · rw [Heap.get?_update_other _ _ hTe, he3]
    obtain ⟨c1, d1, t1, s1⟩ := oe
    simp only at hd
    subst hd
    rfl
theorem leave_first {Q : Unit → Shared → Prop} (hfr : A.frames = some (env :: outer)) (hl : s.heap.FunFrames base (env :: outer)) (hf : env.frame = some L) (he : s.heap.get? e = some oe) (hd : oe.data = .fields vs) (h1 : vs[1]? = some .none)
    (h : ∀ h' T, Left (frs (env :: outer)) s.heap h' e oe vs T → Q () { s with heap := h' }) : wpAny M A (leaving env (.ref e)) Q E s := by
  unfold leaving noteFrame
  simp only [hf]
  refine wpAny_bind (wpAny_bind (wpAny_field he hd h1 ?_))
  rw [if_neg (by decide)]
  exact leave_tail hfr hl hf he hd (Array.getElem?_eq_some_iff.mp h1).1 h
theorem leave_next {Q : Unit → Shared → Prop} {T0 : Addr} {o0 : Obj} {ts0 : Array Value} (hfr : A.frames = some (env :: outer)) (hl : s.heap.FunFrames base (env :: outer)) (hf : env.frame = some L) (he : s.heap.get? e = some oe) (hd : oe.data = .fields vs) (h1 : vs[1]? = some (.ref T0))
    (hT : s.heap.get? T0 = some o0) (hdT : o0.data = .fields ts0) (h3 : ts0[3]? = some .none) (hTe : T0 ≠ e)
    (h : ∀ h' T, Left (frs (env :: outer)) s.heap h' e oe vs T → Q () { s with heap := h' }) : wpAny M A (leaving env (.ref e)) Q E s := by
  unfold leaving noteFrame
  simp only [hf]
  refine wpAny_bind (wpAny_bind (wpAny_field he hd h1 ?_))
  rw [if_pos (show (Value.ref T0 != Value.none) = true from by simp)]
  refine wpAny_bind (wpAny_field hT hdT h3 ?_)
  rw [if_neg (show ¬ ((Value.none == rawInt L) = true) from by simp [rawInt])]
  refine wpAny_bind (wpAny_setField hT hdT (Array.getElem?_eq_some_iff.mp h3).1 ?_)
  have hoth : ∀ b, b ≠ T0 → (s.heap.update T0 (Obj.mapFields (·.setIfInBounds 3 Value.none))).get? b = s.heap.get? b := fun b hb => Heap.get?_update_other _ _ (Ne.symm hb)
  have hno : ∀ b o, s.heap.get? b = some o → (∀ z, o.data ≠ .fields z) → b ≠ T0 := fun b o z hn q => by
    rw [q, hT] at z; cases z
    exact hn ts0 hdT
  have hl2 : (s.heap.update T0 (Obj.mapFields (·.setIfInBounds 3 Value.none))).FunFrames base (env :: outer) := hl.of_keeps fun b o z hn => ⟨o, (hoth b (hno b o z hn)).trans z, rfl⟩
  refine leave_tail (s := { s with heap := s.heap.update T0 (Obj.mapFields (·.setIfInBounds 3 Value.none)) }) hfr hl2 hf ((hoth e (Ne.symm hTe)).trans he) hd (Array.getElem?_eq_some_iff.mp h1).1 fun h' T lf => h h' T ⟨fun b o hb hn z hz => lf.keep b o hb hn ((hoth b (hz T0 h1)).trans z) hz, fun b o hb z => ?_, ?_, lf.ent, lf.obj⟩
  · obtain ⟨_, o', ho', hn'⟩ := hl.mem hb
    rw [z] at ho'; cases ho'
    exact lf.slot b o hb ((hoth b (hno b o z hn')).trans z)
  · have := lf.new
    rw [Heap.size_update] at this
    exact this
end
def Flown (n : Nat) (h : Heap) (a C : Addr) (dx : Option Addr) (H : Hp) : Prop :=
  ∃ oe vs T oT ts, h.get? a = some oe ∧ oe.cls = .ref C ∧ oe.dict = dx ∧ oe.data = .fields vs ∧ vs[1]? = some (.ref T) ∧ T ≠ a ∧ h.get? T = some oT ∧ oT.data = .fields ts ∧ ts[3]? = some .none ∧ H a = none ∧ H T = none ∧ n ≤ a ∧ n ≤ T
def CX1 (P : Program) (w : World) : CXT := fun outer H s E ev s' =>
  ∃ a C dx H', ev = .ref a ∧ s'.os = s.os ∧ AllBare s'.gens ∧ Un (frs outer) [] H H' s.heap s'.heap ∧ HOk P w H' s'.heap ∧ Flown s.heap.objs.size s'.heap a C dx H' ∧ E (.ref C) dx H'
theorem left_hok {P : Program} {w : World} {H : Hp} {h h' : Heap} {fr : List Addr} {e T : Addr} {oe : Obj} {vs : Array Value} (ok : HOk P w H h) (lf : Left fr h h' e oe vs T) (he : H e = none) (hT : ∀ z, vs[1]? = some (.ref z) → H z = none) (hfr : ∀ b ∈ fr, H b = none) : HOk P w H h' := fun b u z => by
  refine (ok b u z).stay (fun c v hc q => ?_) (fun _ q => q) fun _ _ q => q
  have hcs : ∃ x, H c = some x := by
    rcases hc with rfl | hc
    · exact ⟨_, z⟩
    · exact ⟨_, hc⟩
  obtain ⟨x, hx⟩ := hcs
  exact lf.keep c v (ne_of_none hx he) (fun m => by rw [hfr c m] at hx; cases hx) q fun y hy => ne_of_none hx (hT y hy)
theorem left_un {H0 H : Hp} {h0 h h' : Heap} {fs fr : List Addr} {e T : Addr} {oe : Obj} {vs : Array Value} (u : Un fs [] H0 H h0 h) (lf : Left fr h h' e oe vs T) (hfs : ∀ b, b ∈ fs → b ∈ fr) (hfr : ∀ b o, h0.get? b = some o → b ∈ fr → b ∈ fs)
    (he : h0.objs.size ≤ e) (hT : ∀ z, vs[1]? = some (.ref z) → h0.objs.size ≤ z) : Un fs [] H0 H h0 h' := by
  have ne : ∀ b o, h0.get? b = some o → b ≠ e ∧ ∀ z, vs[1]? = some (.ref z) → b ≠ z := fun b o q =>
    ⟨Nat.ne_of_lt (Nat.lt_of_lt_of_le (Heap.lt_size q) he), fun z hz => Nat.ne_of_lt (Nat.lt_of_lt_of_le (Heap.lt_size q) (hT z hz))⟩
  refine ⟨fun b o q n hb hx => lf.keep b o (ne b o q).1 (fun m => hb (hfr b o q m)) (u.keep b o q n hb hx) (ne b o q).2, fun b o q n hb hx => ?_, u.free, fun b o q hx => ?_, u.tups, u.frzs, u.tbls⟩
  · obtain ⟨sl, z⟩ := u.slot b o q n hb hx
    obtain ⟨sl2, z2⟩ := lf.slot b _ (hfs b hb) z
    exact ⟨sl2, z2⟩
  · obtain ⟨o2, z⟩ := u.there b o q hx
    by_cases m : b ∈ fr
    · obtain ⟨sl, z2⟩ := lf.slot b o2 m z
      exact ⟨_, z2⟩
    · exact ⟨o2, lf.keep b o2 (ne b o q).1 m z (ne b o q).2⟩
section
variable {P : Program} {w : World} {K : PySem.W.Frag} {mg : Str → Option Value} {base : Heap} {N : List Str} {qual : Str} {scope : Scope} {f : Addr} {cd : Value} {A : Around} {outer : List Env} {s : Shared} {H : Hp} {E : XK}
theorem pass1 : Passes (CX1 P w) (cxOf (CX1 P w) P w K mg base N qual scope f cd A outer s H E) E := by
  intro pins σ H1 s1 ev s2 I hc
  obtain ⟨a, C, dx, H', rfl, hos, hb, un, hok, ⟨oe, vs, T, oT, ts, ga, gc, gd, gf, g1, gne, gT, gt, g3, ha, hT, na, nT⟩, q⟩ := hc
  have I2 : Inv (cxOf (CX1 P w) P w K mg base N qual scope f cd A outer s H E) pins σ H' s2 := I.call' (ch := []) hos un hok hb (fun b z => absurd z (by simp))
  show wpAny (model P w) (A.deeper (envOfC qual scope s.heap.objs.size f cd)) (leaving (envOfC qual scope s.heap.objs.size f cd) (.ref a)) _ _ s2
  refine leave_next (base := base) I.ok.frames I2.stack rfl ga gf g1 gT gt g3 gne fun h' T' lf => ?_
  have hz : ∀ z, vs[1]? = some (.ref z) → z = T := fun z hz => by rw [g1] at hz; cases hz; rfl
  have s0 : s.heap.objs.size ≤ s1.heap.objs.size := I.sz
  have hstk : ∀ b ∈ frs (envOfC qual scope s.heap.objs.size f cd :: outer), H' b = none := I2.stkFree
  obtain ⟨oT', ts', gT', gt', g3'⟩ := lf.ent
  refine ⟨a, C, dx, H', rfl, I2.os, I2.bare, left_un I2.base lf (fun b hb => ?_) (fun b o q m => ?_) (Nat.le_trans s0 na) (fun z h => by rw [hz z h]; exact Nat.le_trans s0 nT), left_hok I2.hok lf ha (fun z h => by rw [hz z h]; exact hT) hstk, ?_, q⟩
  · show b ∈ frs (envOfC qual scope s.heap.objs.size f cd :: outer)
    unfold frs
    rw [List.filterMap_cons]
    exact List.mem_cons_of_mem _ hb
  · have m : b ∈ frs (envOfC qual scope s.heap.objs.size f cd :: outer) := m
    unfold frs at m
    rw [List.filterMap_cons] at m
    rcases List.mem_cons.mp m with z | z
    · exact absurd (Heap.lt_size q) (by rw [z]; exact Nat.lt_irrefl _)
    · exact z
  · have hsz2 : s.heap.objs.size ≤ s2.heap.objs.size := I2.sz
    have nTa : T' ≠ a := fun z => absurd (Heap.lt_size ga) (by rw [← z]; exact Nat.not_lt.mpr lf.new)
    refine ⟨_, _, T', oT', ts', lf.obj, gc, gd, rfl, ?_, nTa, gT', gt', g3', ha, I2.hok.fresh lf.new, Nat.le_trans s0 na, Nat.le_trans hsz2 lf.new⟩
    have : 1 < vs.size := (Array.getElem?_eq_some_iff.mp g1).1
    simp [this]
end
mutual
def pyD : Dt → PyData
  | .non => .none
  | .bl b => .bool b
  | .int i => .int i
  | .str x => .str x
  | .lst xs => .list (pyDs xs)
  | .tup xs => .tuple (pyDs xs)
def pyDs : List Dt → List PyData
  | [] => []
  | x :: xs => pyD x :: pyDs xs
end
structure ExcI (K : PySem.W.Frag) (C R : Addr) : Prop where
  g : ExcG K C
  mro : (PySem.W.clsIn K C).map (·.mro) = some [.ref C, .ref R, .type "ValueError", .type "Exception", .type "BaseException", .type "object"]
  ty : PySem.W.typeIn K (.ref C) = some (.type "type")
  ha : PySem.W.findIn K (.ref C) "__class__" = some (some (.builtin "object.__class__"))
  hn : PySem.W.specialIn K (.builtin "object.__class__") "__get__" = some (some (.builtin "getset_descriptor.__get__"))
  tk : PySem.W.takesIn K (.builtin "object.__class__") = some true
section
variable {prog : Program} {w : World} {A : Around} {E : Value → Shared → Prop} {s : Shared} {K : PySem.W.Frag} {e C R D : Addr} {oe : Obj} {odo : Option Obj}
theorem ExcI.in (G : ExcI K C R) (b : Value) : PySem.W.mroIn K C b = some ([Value.ref C, .ref R, .type "ValueError", .type "Exception", .type "BaseException", .type "object"].contains b) := by
  obtain ⟨cd, hc, hm⟩ := Option.map_eq_some_iff.mp G.mro
  unfold PySem.W.mroIn
  rw [hc, Option.bind_some, hm]
  rfl
theorem exc_class {Q : Option Value → Shared → Prop} (G : ExcI K C R) (X : K.In s.heap) (J : PySem.W.InstAt s.heap e oe C odo) (h : Q (some (.ref C)) { s with toks := s.toks + 1 }) : wpAny (model prog w) A (getAttr? (.ref e) "__class__") Q E s := by
  have hfo : PySem.W.findObj K C odo "__class__" = some (.bind (.builtin "getset_descriptor.__get__") (.builtin "object.__class__")) := by
    obtain ⟨cd, hc, hm⟩ := Option.map_eq_some_iff.mp G.mro
    unfold PySem.W.findObj
    rw [hc, Option.bind_some, G.ha, Option.bind_some]
    simp [G.hn, G.tk]
  obtain ⟨hp, g, d, t, os⟩ := s
  have L0 := J.type (M := model prog w)
  have L1 := PySem.W.looks_findIn (M := model prog w) X G.g.ga
  have L2 := PySem.W.looks_find (M := model prog w) X J hfo
  have L3 := PySem.W.looks_findIn (M := model prog w) X G.g.gb
  have hx0 : (false && onTheHeap (Value.builtin "BaseException.__getattribute__")) = false := rfl
  have sub : PySem.W.Looks (model prog w) hp (isInstance (.ref e) (.type "BaseException")) true := J.type.andThen (PySem.W.looks_mroIn X G.g.mb)
  unfold getAttr? getAttrBy? getAttrBy
  refine wpAny_bind (wpAny_mkText (wpAny_bind (wpAny_attempt (wpAny_holding (wpAny_bind (L0.at (wpAny_bind (L1.at ?_))))))))
  show wpAny _ _ (getAttrByItsOwn (.ref e) (.str "__class__" t) (.ref C) (.builtin "BaseException.__getattribute__") false false) _ _ _
  unfold getAttrByItsOwn
  refine wpAny_bind (show wpAny _ _ (typeLookup (.ref C) "__getattr__") _ _ _ from L3.at ?_)
  refine wpAny_bind (wpAny_attempt (wpAny_holding ?_))
  unfold callGetattribute
  rw [hx0, if_neg Bool.false_ne_true]
  unfold boundAndCalled
  rw [PySem.F.excAttr_ValueError.ga.bind (.ref e)]
  refine wpAny_bind (wpAny_pure (wpAny_call (codeAny_call_builtin PySem.F.excAttr_ValueError.ga.plain PySem.F.entry_bexc_ga (@PySem.W.check_slot (model prog w) _ _ _ "BaseException.__getattribute__" "BaseException" "__getattribute__" (.ref e) [.str "__class__" t] [] _ (by decide +kernel) (by decide +kernel) sub (PySem.F.args_bexc_ga _ _) ?_))))
  refine wpAny_bind (wpAny_pure (wpAny_bind (wpAny_pure (wpAny_bind (L0.at (wpAny_bind (L2.at ?_)))))))
  have hm : PySem.W.mroIn K C (.type "object") = some true := G.in _
  refine wpAny_bind (wpAny_holding (wpAny_call (PySem.W.class_get (s := ⟨hp, g, d, t + 1, os⟩) (ox := oe) (od := odo) X J hm (wpAny_pure ?_))))
  exact PySem.W.handed_on rfl (wpAny_pure h)
theorem kitx_exc (G : ExcI K C R) : PySem.W.KitX K (.ref e) (.ref C) (fun h => ∃ oe odo, PySem.W.InstAt h e oe C odo) where
  ty := fun _ _ _ ⟨_, _, J⟩ => J.type
  it := fun _ _ X _ => by
    obtain ⟨cd, hc, _⟩ := Option.map_eq_some_iff.mp G.mro
    unfold PySem.W.clsIn at hc
    split at hc
    · rename_i c' d' cd' sl' ho
      intro A' Q' E' s' k q
      unfold isType loadHead
      exact wpAny_bind (wpAny_loadPart (k _ _ (X _ _ ho)) (wpAny_pure q))
    · cases hc
  ne := fun h tp dd its n sl X htp => by
    obtain ⟨cd, hc, _⟩ := Option.map_eq_some_iff.mp G.mro
    refine Bool.eq_false_iff.mpr fun q => ?_
    have e : C = tp := Value.ref.inj (beq_iff_eq.mp q)
    subst e
    unfold PySem.W.clsIn at hc
    split at hc
    · rename_i c' d' cd' sl' ho
      have z := (X _ _ ho).symm.trans htp
      cases z
    · cases hc
  ca := fun X ⟨_, _, J⟩ k => exc_class G X J k
theorem kit_excR (G : ExcI K C R) (hR : (PySem.W.clsIn K R).isSome = true) (tR : PySem.W.typeIn K (.ref R) = some (.type "type")) : PySem.W.kitOne K (.ref C) (.ref R) = some true := by
  unfold PySem.W.kitOne
  by_cases q : C = R
  · subst q
    rw [if_pos (by simp)]
  · rw [if_neg (by simpa using q)]
    unfold PySem.W.kitCls
    simp only
    rw [if_pos (by rw [hR, tR]; rfl)]
    show PySem.W.mroIn K C (.ref R) = _
    rw [G.in]
    simp [List.contains_cons]
theorem kit_excV (G : ExcI K C R) : PySem.W.kitOne K (.ref C) (.type "ValueError") = some true := by
  unfold PySem.W.kitOne
  rw [if_neg (by simp)]
  unfold PySem.W.kitCls
  simp only
  rw [if_pos (by decide +kernel)]
  show PySem.W.mroIn K C _ = _
  rw [G.in]
  simp [List.contains_cons]
end
def ExcAt (H : Hp) (x C : Addr) (fs : List (Str × V)) : Prop := (fs = [] ∧ H x = some (excO x C none)) ∨ ∃ dx, H x = some (excO x C (some dx)) ∧ H dx = some (dctO dx fs) ∧ dx ≠ x
def spI1 (C : Addr) (f : Str) : Sp := fun vs H Q _ => ∃ x v, vs = [.ref x, v] ∧ H x = some (excO x C none) ∧ ∀ dx, H dx = none → Q .non (upd (upd H dx (dctO dx [(f, v)])) x (excO x C (some dx)))
structure HasExc (K : PySem.W.Frag) (mg : Str → Option Value) (x qual : Str) (st : Stmt) (C R : Addr) : Prop where
  ex : ∃ f fd, ExcC K C f [.ref R, .type "ValueError", .type "Exception", .type "BaseException", .type "object"] ∧ Fun K "__init__" qual st f fd
  gl : mg x = some (.ref C)
  S : ExcS K C
  I : ExcI K C R
theorem bm_ok (R : Addr) : ExcF "ValueError" "ValueError.__new__" "ValueError.__init__" [.ref R, .type "ValueError", .type "Exception", .type "BaseException", .type "object"] := excF_ValueError.under R
section
variable {P : Program} {w : World} {K : PySem.W.Frag} {mg : Str → Option Value} {base : Heap} {CX : CXT} {X : Cx} {k m : Nat} {C R : Addr} {E : XK} {x qual f g : Str} {st : Stmt} {p pos : Pos} {e : Expr} {es : List Expr} {t : TA}
def InitOk (P : Program) (w : World) (K : PySem.W.Frag) (mg : Str → Option Value) (base : Heap) (CX : CXT) (qual : Str) (st : Stmt) (ps : List Str) (sp : Sp) : Prop := ∀ f fd, Fun K "__init__" qual st f fd → FnOk P w K mg base CX 1 f fd ps sp ∧ Binds K fd ps []
end
section
variable {K : PySem.W.Frag} {mg : Str → Option Value} {x qual : Str} {st : Stmt} {C R f : Addr} {nm q : Str} {N : Addr} {bs : List Value} {sn : List Str} {sub : List Value} {ab : Bool} {col : Option Bool} {dd : Option Addr} {k0 k1 k2 k3 k5 : Option Value} {od an : Option Addr} {osl : Array (Option Value)} {kV doc pm cdv ct : Value}
theorem excS_mk (l : K.lookup C = some (excClassObj nm q C N bs [.ref R, .type "ValueError", .type "Exception", .type "BaseException", .type "object"] true sn sub ab col dd k0 k1 k2 k3 k5 "ValueError.__new__"))
    (sa : PySem.W.findIn K (.ref C) "__setattr__" = some (some (.builtin "object.__setattr__"))) : ExcS K C := by
  have hc : ∃ cd, PySem.W.clsIn K C = some cd ∧ cd.mro = [.ref C, .ref R, .type "ValueError", .type "Exception", .type "BaseException", .type "object"] ∧ cd.hasDict = true := by
    unfold PySem.W.clsIn
    rw [l]
    exact ⟨_, rfl, rfl, rfl⟩
  obtain ⟨cd, h1, h2, h3⟩ := hc
  refine ⟨sa, ?_, ?_⟩
  · unfold excOver
    rw [h1, Option.any_some, h2]
    rfl
  · unfold PySem.W.hasDictIn
    rw [h1, Option.any_some, h3]
theorem excI_mk (l : K.lookup C = some (excClassObj nm q C N bs [.ref R, .type "ValueError", .type "Exception", .type "BaseException", .type "object"] true sn sub ab col dd k0 k1 k2 k3 k5 "ValueError.__new__"))
    (ga : PySem.W.findIn K (.ref C) "__getattribute__" = some (some (.builtin "BaseException.__getattribute__"))) (gb : PySem.W.findIn K (.ref C) "__getattr__" = some none)
    (ha : PySem.W.findIn K (.ref C) "__class__" = some (some (.builtin "object.__class__"))) (hn : PySem.W.specialIn K (.builtin "object.__class__") "__get__" = some (some (.builtin "getset_descriptor.__get__"))) (tk : PySem.W.takesIn K (.builtin "object.__class__") = some true) : ExcI K C R := by
  have hc : ∃ cd, PySem.W.clsIn K C = some cd ∧ cd.mro = [.ref C, .ref R, .type "ValueError", .type "Exception", .type "BaseException", .type "object"] ∧ cd.hasDict = true := by
    unfold PySem.W.clsIn
    rw [l]
    exact ⟨_, rfl, rfl, rfl⟩
  obtain ⟨cd, h1, h2, h3⟩ := hc
  refine ⟨⟨ga, gb, ?_, ?_⟩, ?_, ?_, ha, hn, tk⟩
  · unfold PySem.W.mroIn
    rw [h1, Option.bind_some, h2]
    rfl
  · unfold PySem.W.hasDictIn
    rw [h1, Option.any_some, h3]
  · rw [h1, Option.map_some, h2]
  · show (List.lookup C K).map (·.cls) = _
    rw [l]
    rfl
theorem HasExc.mk1 (m : mg x = some (.ref C)) (l : K.lookup C = some (excClassObj nm q C N bs [.ref R, .type "ValueError", .type "Exception", .type "BaseException", .type "object"] true sn sub ab col dd k0 k1 k2 k3 k5 "ValueError.__new__"))
    (i : PySem.W.findIn K (.ref C) "__init__" = some (some (.ref f))) (lf : K.lookup f = some ⟨.type "function", od, .func (PySem.W.fnOf "__init__" qual (defArgs st) (defBody st) (defScope st) .none kV doc pm an cdv ct), osl⟩)
    (c : PySem.W.codeIn K cdv qual = true) (kf : PySem.W.keepIn K (.ref f) = true) (kc : PySem.W.keepIn K (.ref C) = true) (S : ExcS K C) (I : ExcI K C R) : HasExc K mg x qual st C R :=
  ⟨⟨f, _, ⟨⟨nm, q, N, bs, true, sn, sub, ab, col, dd, k0, k1, k2, k3, k5, l⟩, bm_ok R, i, ⟨_, lf, rfl⟩, kc⟩, fun_mk lf c kf⟩, m, S, I⟩
end
section
variable {X : Cx}
theorem op_mul_str : OpR X (binaryOp .Mult) (fun x y H Q => ∃ z n, x = .str z ∧ y = .int n ∧ MulOk z n ∧ Q (.str (Txt.mul z n)) H) := by
  intro pins s σ H x y v u Q I rx ry h
  obtain ⟨z, n, rfl, rfl, ok, q⟩ := h
  obtain ⟨t, rfl⟩ := rx
  obtain ⟨t', rfl⟩ := ry
  exact SB.mul ok fun t'' k => ⟨.str _, H, I.tok _, ⟨_, rfl⟩, q⟩
end
structure Shm (m d : Nat) (x : PyData) : Prop where
  sh : x.showable = true
  ln : x.shown.length ≤ m
  dp : x.depth ≤ d
structure New (H H' : Hp) (p : Addr) (o : HO) : Prop where
  s : Same H H'
  e : H' p = some o
  n : ∀ a u, H a = some u → a ≠ p
theorem New.mk' {H : Hp} {p : Addr} {o : HO} (h : H p = none) : New H (upd H p o) p o := ⟨Same.new h, upd_same, fun a u q => ne_of_none q h⟩
section
variable {X : Cx} {es : List Expr} {t : TA} {pos : Pos}
def tTupA (t : TA) : TE := fun σ H Q => t σ H fun xs H1 => xs.length ≤ sizeLine ∧ ∀ p H', New H1 H' p (.tup xs) → Q (.ref p) H'
def tLstA (t : TA) : TE := fun σ H Q => t σ H fun xs H1 => xs.length ≤ sizeLine ∧ ∀ p H', New H1 H' p (.lst xs) → Q (.ref p) H'
theorem pe_tupA {x1} (h : PA X es t) : PE X (.Tuple es x1 pos) (tTupA t) := by
  intro pins s σ H Q I hq
  refine wpAny_Tuple_spliced (thn (h pos pins s σ H _ I hq) fun us s1 ⟨xs, H1, I1, r, z, q⟩ => ⟨by rw [← r.length]; exact z, ?_⟩)
  have hf : H1 s1.heap.objs.size = none := I1.hok.fresh (Nat.le_refl _)
  refine ⟨.ref s1.heap.objs.size, upd H1 s1.heap.objs.size (.tup xs), I1.laid (t' := s1.toks) (fun b u e => Heap.get?_push_of_some _ e) (Nat.le_refl _) ?_, rfl, q _ _ (.mk' hf)⟩
  exact ⟨z, us, r, ⟨_, Heap.get?_push_size _ rfl, rfl, _, rfl⟩⟩
theorem pe_lstA (h : PA X es t) : PE X (.List es pos) (tLstA t) := by
  intro pins s σ H Q I hq
  refine wpAny_List_spliced (thn (h pos pins s σ H _ I hq) fun us s1 ⟨xs, H1, I1, r, z, q⟩ => ⟨by rw [← r.length]; exact z, ?_⟩)
  have hf : H1 s1.heap.objs.size = none := I1.hok.fresh (Nat.le_refl _)
  refine ⟨.ref s1.heap.objs.size, upd H1 s1.heap.objs.size (.lst xs), I1.laid (t' := s1.toks) (fun b u e => Heap.get?_push_of_some _ e) (Nat.le_refl _) ?_, rfl, q _ _ (.mk' hf)⟩
  exact ⟨z, us, 0, r, Heap.get?_push_size _ rfl⟩
def rCatA : R2 := fun x y H Q => ∃ l b xs zs, x = .ref l ∧ y = .ref b ∧ H l = some (.lst xs) ∧ H b = some (.lst zs) ∧ xs.length + zs.length ≤ sizeLine ∧ ∀ p H', New H H' p (.lst (xs ++ zs)) → Q (.ref p) H'
theorem op_catA : OpR X (binaryOp .Add) rCatA := by
  intro pins s σ H x y v u Q I rx ry h
  obtain ⟨l, b, xs, zs, e1, e2, hH, hB, hz, q⟩ := h
  exact op_cat pins s σ H x y v u Q I rx ry ⟨l, b, xs, zs, e1, e2, hH, hB, hz, fun p hp => q p _ (.mk' hp)⟩
def rAppA : V → List V → Hp → VK → Prop := fun x vs H Q => ∃ l xs y, x = .ref l ∧ vs = [y] ∧ H l = some (.lst xs) ∧ xs.length < sizeLine ∧ ∀ H', Off l H H' → H' l = some (.lst (xs ++ [y])) → Q .non H'
theorem mt_appendA : MtM X "list.append" rAppA := by
  intro pins s σ H x vs v us Q I rx rv h
  obtain ⟨l, xs, y, e1, e2, hH, hz, q⟩ := h
  exact mt_append pins s σ H x vs v us Q I rx rv ⟨l, xs, y, e1, e2, hH, hz, q _ Off.upd upd_same⟩
theorem pe_appendA {o e : Expr} {to te : TE} {apos cpos : Pos} (ho : PE X o to) (he : PE X e te) (hbase : attributeBase o "append" X.env (eval o X.env) = eval o X.env := by rfl)
    (hfew : ((backTo cpos (starEach [e] X.env)).all (fun x => !x.1) && (backToKw cpos (keywordEach [] X.env)).all (fun x => x.1.isSome)
      && decide (([e] : List Expr).length + ([] : List Keyword).length + (if ([] : List Keyword).isEmpty then 0 else 1) < 30)) = true := by rfl)
    (hline : (apos.endLine == cpos.line) = true := by rfl) (hs : starEach [e] X.env = (false, eval e X.env) :: starEach [] X.env := by rfl) :
    PE X (.Call (.Attribute o "append" apos) [e] [] cpos) (tBM X.K "list" rAppA to (tCons te tNil)) :=
  pe_bm PySem.F.plainAttrs_list PySem.F.slot_list_append PySem.F.type_list_append mt_appendA ho (pa_cons he pa_nil hs) hbase hfew hline hs (by rfl)
end
def Tel (t : TE) (σ : St) (H : Hp) (v : V) : Prop := ∀ Q : VK, Q v H → t σ H Q
def TelA (t : TA) (σ : St) (H : Hp) (vs : List V) : Prop := ∀ Q : List V → Hp → Prop, Q vs H → t σ H Q
section
variable {σ σ' : St} {H : Hp} {v x y : V} {vs : List V} {t ta tb : TE} {tr : TA} {i j : Nat} {a C : Addr} {f g : Str} {fs : List (Str × V)} {Q : VK} {D : Ends} {s u : TS} {K : PySem.W.Frag} {tg : TG} {c : TT}
theorem rd_var (h : σ[i]? = some (some v)) : Tel (tVar i) σ H v := fun Q q => ⟨v, h, q⟩
theorem rd_c : Tel (tC v) σ H v := fun Q q => q
theorem rda_nil : TelA tNil σ H [] := fun Q q => q
theorem rda_cons (h : Tel t σ H v) (k : TelA tr σ H vs) : TelA (tCons t tr) σ H (v :: vs) := fun Q q => h _ (k _ q)
theorem go_cons {Q : List V → Hp → Prop} (h : t σ H fun x H1 => tr σ H1 fun xs H2 => Q (x :: xs) H2) : tCons t tr σ H Q := h
theorem go_nil {Q : List V → Hp → Prop} (h : Q [] H) : tNil σ H Q := h
theorem go_seq (h : s { D with nx := u D } σ H) : tSeq s u D σ H := h
theorem go_nx {nx bk ct : St → Hp → Prop} {rt : VK} (h : nx σ H) : (Ends.mk nx rt bk ct).nx σ H := h
theorem go_next (h : D.nx σ H) : tNext D σ H := h
theorem go_asg (h : t σ H fun x H1 => tg x σ H1 D.nx) : tAsg t tg D σ H := h
theorem go_tupA (h : tr σ H fun xs H1 => xs.length ≤ sizeLine ∧ ∀ p H', New H1 H' p (.tup xs) → Q (.ref p) H') : tTupA tr σ H Q := h
theorem go_lstA (h : tr σ H fun xs H1 => xs.length ≤ sizeLine ∧ ∀ p H', New H1 H' p (.lst xs) → Q (.ref p) H') : tLstA tr σ H Q := h
theorem go_op {r : R2} (h : ta σ H fun x H1 => tb σ H1 fun y H2 => r x y H2 Q) : tOp r ta tb σ H Q := h
theorem go_ret (h : t σ H D.rt) : tRet t D σ H := h
theorem go_drop (h : t σ H fun _ H1 => D.nx σ H1) : tDrop t D σ H := h
theorem go_if (h : c σ H fun b H1 => if b = true then s D σ H1 else u D σ H1) : tIfS c s u D σ H := h
theorem go_test {Q : Bool → Hp → Prop} (h : t σ H fun x H' => ∃ k, x = .bl k ∧ Q k H') : tTest t σ H Q := h
theorem go_b {Q : Bool → Hp → Prop} (h : t σ H fun x H' => ∃ k, x = .bl k ∧ Q k H') : tB t σ H Q := h
theorem go_cb {r : List V → Hp → VK → Prop} (h : tr σ H fun vs H1 => r vs H1 Q) : tCB r tr σ H Q := h
end
section
variable {σ : St} {H : Hp} {te : TE} {tr : TA} {Q : VK} {c : TT} {fr : List Nat} {fvs : St} {n : Nat}
theorem rangeV_get {i : Nat} {x : V} (h : (rangeV 0 n)[i]? = some x) (hi : i < n) : x = .int i := by
  have : (rangeV 0 n)[i]? = some (V.int (0 + (i : Int))) := by simp [rangeV, hi]
  rw [this] at h
  have := Option.some.inj h
  rw [← this, Int.zero_add]
theorem go_map_range {F : Nat → V} (hr : TelA tr σ H [.int (n : Int)]) (hn : n < 2 ^ 62) (hz : n ≤ 1000000) (hf : (fr.map fun i => (σ[i]?).getD none) = fvs)
    (turn : ∀ i H', i < n → Same H H' → Tel te (some (.int i) :: fvs) H' (F i)) (k : ∀ p H', New H H' p (.lst ((List.range n).map F)) → Q (.ref p) H') : tComp (iRng1 tr) 1 fr (gName 0) tTrue te σ H Q := by
  refine hr _ ⟨n, rfl, by omega, by omega, fun acc hacc => ?_⟩
  subst hf
  rw [Int.toNat_natCast]
  refine comp_by items_range (fun i ys H' => H' = upd H acc (.lst ys) ∧ ys = (List.range i).map F) ⟨rfl, rfl⟩ (fun i ys H' _ h => ⟨trivial, by rw [h.1]; exact upd_same⟩) ?_ ?_
  · rintro i x tv ys H' hx hi ⟨rfl, rfl⟩ htv
    obtain ⟨tv0, rfl⟩ : ∃ a, tv = [a] := List.length_eq_one_iff.mp htv
    have hi' : i < n := by simpa [rangeV] using hi
    obtain rfl := rangeV_get hx hi'
    unfold gName tTrue
    dsimp only
    rw [if_pos rfl]
    refine turn i _ hi' (Same.new hacc) _ ⟨?_, upd_same, ?_⟩
    · rw [List.length_map, List.length_range]
      exact Nat.lt_of_lt_of_le hi' (small_line hz)
    · exact CompW.next (tv := [some (V.int i)]) hi ⟨upd_upd, by rw [List.range_succ, List.map_append]; rfl⟩ rfl
  · rintro ys H' ⟨rfl, rfl⟩
    rw [show (rangeV 0 n).length = n by simp [rangeV]]
    exact k acc _ (.mk' hacc)
end
def del (H : Hp) (a : Addr) : Hp := fun b => if b = a then none else H b
section
variable {P : Program} {w : World} {H : Hp} {h : Heap} {a b : Addr} {φ : Heap → Prop} {o : HO}
theorem del_same : del H a a = none := by unfold del; rw [if_pos rfl]
theorem del_ne (h : b ≠ a) : del H a b = H b := by unfold del; rw [if_neg h]
theorem del_none (h : H b = none) : del H a b = none := by
  unfold del
  split
  · rfl
  · exact h
theorem HOk.del (ok : HOk P w H h) (ha : H a = some (.ext φ)) : HOk P w (del H a) h := fun b u z => by
  by_cases hb : b = a
  · rw [hb, del_same] at z
    cases z
  · rw [del_ne hb] at z
    refine (ok b u z).stay (fun _ _ _ q => q) (fun c q => ?_) fun c xs q => ?_
    · rw [del_ne fun e => by rw [e, ha] at q; cases q]
      exact q
    · rw [del_ne fun e => by rw [e, ha] at q; cases q]
      exact q
theorem HOk.track (ok : HOk P w H h) (ha : H a = none) (new : ObjOk P w (upd H a o) h a o) : HOk P w (upd H a o) h := fun b u z => by
  by_cases hb : b = a
  · subst hb
    rw [upd_same] at z
    cases z
    exact new
  · rw [upd_ne hb] at z
    refine (ok b u z).stay (fun _ _ _ q => q) (fun c q => ?_) fun c xs q => ?_
    · rw [upd_ne (ne_of_none q ha)]
      exact q
    · rw [upd_ne (ne_of_none q ha)]
      exact q
end
section
variable {X : Cx} {pins : List (Addr × Obj)} {σ : St} {H H1 : Hp} {s s1 : Shared} {a : Addr} {φ : Heap → Prop} {o : HO}
theorem Inv.del (I : Inv X pins σ H s) (ha : H a = some (.ext φ)) (h0 : X.H₀ a = none) : Inv X pins σ (del H a) s := by
  have ne : ∀ {b : Addr} {u : HO}, X.H₀ b = some u → b ≠ a := fun {b u} z => ne_of_none z h0
  refine ⟨I.ok, I.os, I.bare, ⟨I.base.keep, I.base.slot, fun b o e n hx => del_none (I.base.free b o e n hx), I.base.there, fun b xs e => ?_, fun b o u e => ?_, fun b ps e => ?_⟩, I.loc, I.cell, del_none I.free, fun x c e => del_none (I.freeC x c e), fun p hp => ?_, I.hok.del ha, I.len⟩
  · rw [del_ne (ne e)]; exact I.base.tups b xs e
  · rw [del_ne (ne e)]; exact I.base.frzs b o u e
  · rw [del_ne (ne e)]; exact I.base.tbls b ps e
  · obtain ⟨q1, q2, q3, q4, q5⟩ := I.pin p hp
    exact ⟨q1, del_none q2, q3, q4, q5⟩
theorem Inv.track (I : Inv X pins σ H s) (I0 : Inv X pins σ H1 s1) (na : s1.heap.objs.size ≤ a) (ha : H a = none) (new : ObjOk X.prog X.w (upd H a o) s.heap a o) : Inv X pins σ (upd H a o) s := by
  have s0 : X.s₀.heap.objs.size ≤ s1.heap.objs.size := I0.sz
  have ne : ∀ b ob, s1.heap.get? b = some ob → b ≠ a := fun b ob q => Nat.ne_of_lt (Nat.lt_of_lt_of_le (Heap.lt_size q) na)
  refine ⟨I.ok, I.os, I.bare, ⟨I.base.keep, I.base.slot, fun b o e n hx => ?_, I.base.there, fun b xs e => ?_, fun b o u e => ?_, fun b ps e => ?_⟩, I.loc, I.cell, ?_, fun x c e => ?_, fun p hp => ?_, I.hok.track ha new, I.len⟩
  · rw [upd_ne (Nat.ne_of_lt (Nat.lt_of_lt_of_le (Heap.lt_size e) (Nat.le_trans s0 na)))]
    exact I.base.free b o e n hx
  · have z := I.base.tups b xs e
    rw [upd_ne (ne_of_none z ha)]; exact z
  · have z := I.base.frzs b o u e
    rw [upd_ne (ne_of_none z ha)]; exact z
  · obtain ⟨m, z⟩ := I.base.tbls b ps e
    exact ⟨m, by rw [upd_ne (ne_of_none z ha)]; exact z⟩
  · rw [upd_ne (Nat.ne_of_lt (Nat.lt_of_lt_of_le I0.lt na))]
    exact I.free
  · obtain ⟨v, ob, ho, _⟩ := I0.cell x c e
    rw [upd_ne (ne c ob ho)]
    exact I.freeC x c e
  · obtain ⟨q1, q2, q3, q4, q5⟩ := I.pin p hp
    obtain ⟨r1, _⟩ := I0.pin p hp
    exact ⟨q1, by rw [upd_ne (ne _ _ r1)]; exact q2, q3, q4, q5⟩
end
section
variable {M : Model} {A : Around} {E : Value → Shared → Prop} {env : Env}
variable {nm q : Str} {C N : Addr} {bs bm : List Value} {hdct : Bool} {sn : List Str} {sub : List Value} {ab : Bool} {col : Option Bool} {dd : Option Addr} {k0 k1 k2 k3 k5 : Option Value} {newId : String}
theorem raise_own {s : Shared} {x : Sem Value} {Q : Flow → Shared → Prop} (hbase : bm.contains (.type "BaseException") = true) (hh : A.handled = none)
    (h : wpAny M A x (fun v s₁ => ∃ e t dx sl, v = .ref e ∧ s₁.heap.get? C = some (excClassObj nm q C N bs bm hdct sn sub ab col dd k0 k1 k2 k3 k5 newId) ∧
      s₁.heap.get? e = some { cls := .ref C, dict := dx, data := .fields #[.ref t, .none, .none, .none, .bool false, .none], slots := sl } ∧ E (.ref e) s₁) E s) :
    wpAny M A (raiseStmt env (some x) none) Q E s := by
  have hcB : (Value.ref C :: bm).contains (.type "BaseException") = true := by rw [List.contains_cons, hbase, Bool.or_true]
  unfold raiseStmt
  refine wpAny_bind (wpAny_mono h (fun v s₁ h₁ => ?_) fun _ _ x => x)
  obtain ⟨e, t, dx, sl, rfl, hC, he, hE⟩ := h₁
  obtain ⟨hp, g, d, tk, os⟩ := s₁
  repeat (first | with_reducible refine wpAny_loadPart_at he ?_ | with_reducible refine wpAny_loadPart_at hC ?_ | (with_reducible refine wpAny_isSubtype_exc hC ?_; rw [hcB]) | wp_step)
  exact wpAny_raiseNew_none hh hE
end
def ExcK (K : PySem.W.Frag) (C R : Addr) : Prop := ∃ nm q N bs hdct sn sub ab col dd k0 k1 k2 k3 k5, K.lookup C = some (excClassObj nm q C N bs [.ref R, .type "ValueError", .type "Exception", .type "BaseException", .type "object"] hdct sn sub ab col dd k0 k1 k2 k3 k5 "ValueError.__new__")
def tRaise (C : Addr) (H0 : Hp) (n : Nat) (E : XK) (te : TE) : TS := fun D σ H => te σ H fun x H1 => ∃ a dx, x = .ref a ∧ n ≤ a ∧ H0 a = none ∧ H1 a = some (excO a C dx) ∧ E (.ref C) dx (del H1 a)
section
variable {P : Program} {w : World} {K : PySem.W.Frag} {mg : Str → Option Value} {base : Heap} {N : List Str} {qual : Str} {scope : Scope} {f : Addr} {cd : Value} {A : Around} {outer : List Env} {s : Shared} {H : Hp} {E : XK}
theorem ps_raise {C R : Addr} {e : Expr} {te : TE} {pos : Pos} (hC : ExcK K C R) (he : PE (cxOf (CX1 P w) P w K mg base N qual scope f cd A outer s H E) e te) :
    PS (cxOf (CX1 P w) P w K mg base N qual scope f cd A outer s H E) (.Raise (some e) none pos) (tRaise C H s.heap.objs.size E te) := by
  intro pins s1 σ H1 D I h
  obtain ⟨nm, q, N', bs, hdct, sn, sub, ab, col, dd, k0, k1, k2, k3, k5, ho⟩ := hC
  rw [arm_exec_Raise]
  show wpAny (model P w) (A.deeper (envOfC qual scope s.heap.objs.size f cd)) (do standAt pos; raiseStmt (envOfC qual scope s.heap.objs.size f cd) (some (do let v ← eval e (envOfC qual scope s.heap.objs.size f cd); standAt pos; pure v)) none) _ _ s1
  refine wpAny_bind (wpAny_standAt (raise_own (C := C) (nm := nm) (q := q) (N := N') (bs := bs) (bm := [.ref R, .type "ValueError", .type "Exception", .type "BaseException", .type "object"]) (hdct := hdct) (sn := sn) (sub := sub) (ab := ab) (col := col) (dd := dd) (k0 := k0) (k1 := k1) (k2 := k2) (k3 := k3) (k5 := k5) (newId := "ValueError.__new__") (bm_ok R).hasE (I.ok.hd rfl) (wpAny_bind (thn (he pins s1 σ H1 _ I h) fun v s2 ⟨x, H2, I2, rx, a, dx, ex, na, h0, ha, q2⟩ => wpAny_bind (wpAny_standAt (wpAny_pure ?_))))))
  subst ex
  obtain rfl : v = Value.ref a := rx
  obtain ⟨⟨t, sl, ge⟩, _, _⟩ : ObjOk P w H2 s2.heap a (excO a C dx) := I2.hok a _ ha
  refine ⟨a, t, dx, sl, rfl, I2.kIn C _ ho, ge, ?_⟩
  have I3 : Inv (cxOf (CX1 P w) P w K mg base N qual scope f cd A outer s H E) pins σ (del H2 a) s2 := I2.del ha h0
  show wpAny (model P w) (A.deeper (envOfC qual scope s.heap.objs.size f cd)) (leaving (envOfC qual scope s.heap.objs.size f cd) (.ref a)) _ _ s2
  refine leave_first (base := base) I.ok.frames I3.stack rfl ge rfl rfl fun h' T' lf => ?_
  have hz : ∀ z, (#[Value.ref t, .none, .none, .none, .bool false, .none] : Array Value)[1]? = some (.ref z) → False := fun z q => by
    simp at q
  have hstk : ∀ b ∈ frs (envOfC qual scope s.heap.objs.size f cd :: outer), del H2 a b = none := I3.stkFree
  obtain ⟨oT', ts', gT', gt', g3'⟩ := lf.ent
  refine ⟨a, C, dx, del H2 a, rfl, I3.os, I3.bare, left_un I3.base lf (fun b hb => ?_) (fun b o q m => ?_) na (fun z q => (hz z q).elim), left_hok I3.hok lf del_same (fun z q => (hz z q).elim) hstk, ?_, q2⟩
  · show b ∈ frs (envOfC qual scope s.heap.objs.size f cd :: outer)
    unfold frs
    rw [List.filterMap_cons]
    exact List.mem_cons_of_mem _ hb
  · have m : b ∈ frs (envOfC qual scope s.heap.objs.size f cd :: outer) := m
    unfold frs at m
    rw [List.filterMap_cons] at m
    rcases List.mem_cons.mp m with z | z
    · exact absurd (Heap.lt_size q) (by rw [z]; exact Nat.lt_irrefl _)
    · exact z
  · have hsz2 : s.heap.objs.size ≤ s2.heap.objs.size := I2.sz
    have nTa : T' ≠ a := fun z => absurd (Heap.lt_size ge) (by rw [← z]; exact Nat.not_lt.mpr lf.new)
    exact ⟨_, _, T', oT', ts', lf.obj, rfl, rfl, rfl, by simp, nTa, gT', gt', g3', del_same, I3.hok.fresh lf.new, na, Nat.le_trans hsz2 lf.new⟩
end
section
variable {X : Cx} {CX : CXT} {k m : Nat} {f C R : Addr} {fd : FuncData} {ps : List Str} {sp : Sp} {E : XK} {p pos : Pos} {e : Expr} {es : List Expr} {t : TA} {bm : List Value}
theorem run_excN {pins : List (Addr × Obj)} {σ : St} {H : Hp} {s : Shared} {Q : VK} {us : List Value} {vs : List V} (M : ExcC X.K C f bm) (F : FnOk X.prog X.w X.K X.mg X.base CX k f fd ps sp) (hr : Room (k + 1) X.A) (hb : Binds X.K fd ps [])
    (hx : Passes CX X E) (I : Inv X pins σ H s) (r : Vals vs us) (hz : vs.length ≤ sizeLine)
    (h : ∀ x, H x = none → s.heap.objs.size ≤ x → sp (.ref x :: vs) (upd H x (excO x C none)) (fun v H2 => v = .non ∧ Q (.ref x) H2) E) :
    wpAny (model X.prog X.w) X.A (call (.ref C) us) (EP X pins σ Q) X.xe s := by
  obtain ⟨nm, q, N, bs, hdct, sn, sub, ab, col, dd, k0, k1, k2, k3, k5, ho⟩ := M.obj
  obtain ⟨oI, hoI, hcI⟩ := M.fn
  have hsz : us.length ≤ sizeLine := by rw [← r.length]; exact hz
  refine exc_make (h := s.heap) (g := s.gens) (d := s.drawn) (t := s.toks) (os := s.os) M.bm_ok (I.kIn C _ ho) (PySem.W.looks_findIn I.kIn M.init) (I.kIn f _ hoI) hcI (fun h' kp hget => ?_) hsz
  have hfr : H (s.heap.objs.size + 1) = none := I.hok.fresh (Nat.le_succ _)
  have hq := h (s.heap.objs.size + 1) hfr (Nat.le_succ _)
  have I2 : Inv X pins σ (upd H (s.heap.objs.size + 1) (excO (s.heap.objs.size + 1) C none)) { s with heap := h' } := I.laid (t' := s.toks) kp (Nat.le_succ _) (excO_ok hget)
  have r2 : Vals (V.ref (s.heap.objs.size + 1) :: vs) (Value.ref (s.heap.objs.size + 1) :: us) := .cons rfl r
  have hl : (Value.ref (s.heap.objs.size + 1) :: us ++ []).length = ps.length := by
    rw [List.append_nil, ← r2.length]
    exact F.len _ _ _ _ hq
  refine wpAny_call (codeAny_mono (F.run _ X.stack _ _ ⟨Value.ref (s.heap.objs.size + 1) :: us, []⟩ (Value.ref (s.heap.objs.size + 1) :: us) _ _ E (hr.make C us []) (I2.env0.make C us []) (by
    have := hb { s with heap := h' } (Value.ref (s.heap.objs.size + 1) :: us) I2.kIn hl
    rwa [List.append_nil] at this) r2 hq) fun r s' hq' => ?_)
  cases r with
  | error e => exact hx pins σ _ _ e s' I2 hq'
  | ok fl =>
    cases fl with
    | ret u =>
      obtain ⟨v, H', I3, rv, ev, q3⟩ := I2.after hq'
      subst ev
      exact ⟨rv, ⟨V.ref (s.heap.objs.size + 1), H', I3, rfl, q3⟩⟩
    | next => exact False.elim hq'
    | brk => exact False.elim hq'
    | cont => exact False.elim hq'
end
def tEx1N (n : Nat) (C : Addr) (f : Str) (t : TA) : TE := fun σ H Q => t σ H fun vs H1 => ∃ v, vs = [v] ∧ ∀ z H', n ≤ z → H1 z = none → Same H1 H' → ExcAt H' z C [(f, v)] → Q (.ref z) H'
section
variable {CX : CXT} {X : Cx} {k m : Nat} {C R : Addr} {E : XK} {x qual f g : Str} {st : Stmt} {p pos : Pos} {e : Expr} {es : List Expr} {t : TA}
theorem pe_ex1N (M : HasExc X.K X.mg x qual st C R) (F : InitOk X.prog X.w X.K X.mg X.base CX qual st ["self", f] (spI1 C f)) (hr : Room m X.A) (ha : PA X (e :: es) t) (hk : 2 ≤ m := by decide) (hx : Passes CX X E := by exact pass0) (hg : Gl X x := by rfl)
    (hdb : (x == ("__debug__" : Str)) = false := by decide) (he : starEach (e :: es) X.env = (false, eval e X.env) :: starEach es X.env := by rfl) (hpl : (backTo pos (starEach es X.env)).any (·.1) = false := by rfl) :
    PE X (.Call (.Name x p) (e :: es) [] pos) (tEx1N X.s₀.heap.objs.size C f t) := by
  intro pins s σ H Q I h
  obtain ⟨fa, fd, C1, Fn⟩ := M.ex
  obtain ⟨ok, hb⟩ := F fa fd Fn
  refine wpAny_Call_Name_kw (ld_glob I hg M.gl ?_ hdb)
  refine PySem.W.callWith_K (h₀ := X.base) I.ok.mod.kin C1.kp (thn (ha pos pins s σ H _ I h) fun us s1 ⟨vs, H1, I1, r, v, ev, q⟩ => ⟨I1.kIn, ?_⟩) he hpl
  subst ev
  refine run_excN C1 ok (hr.mono hk) hb hx I1 r (small_line (show (_ : Nat) ≤ _ by simp only [List.length_cons, List.length_nil]; decide)) fun z hz hn => ⟨z, v, rfl, upd_same, fun dx hd => ⟨rfl, q z _ (Nat.le_trans I1.sz hn) hz (fun b u eb => ?_) ?_⟩⟩
  · have hzx : dx ≠ z := fun q => by rw [q, upd_same] at hd; cases hd
    rw [upd_ne hzx] at hd
    rw [upd_ne (ne_of_none eb hz), upd_ne (ne_of_none eb hd), upd_ne (ne_of_none eb hz)]
    exact eb
  · have hzx : dx ≠ z := fun q => by rw [q, upd_same] at hd; cases hd
    exact .inr ⟨dx, upd_same, by rw [upd_ne hzx, upd_same], hzx⟩
end
theorem go_raise {n : Nat} {H0 H1 H' : Hp} {E : XK} {C z : Addr} {fs : List (Str × V)} (hfs : fs ≠ []) (hn : n ≤ z) (hz : H1 z = none) (h0 : H0 z = none) (s : Same H1 H') (e : ExcAt H' z C fs) (k : ∀ dx H2, Same H1 H2 → H2 dx = some (dctO dx fs) → E (.ref C) (some dx) H2) :
    ∃ a dx, V.ref z = .ref a ∧ n ≤ a ∧ H0 a = none ∧ H' a = some (excO a C dx) ∧ E (.ref C) dx (del H' a) := by
  rcases e with ⟨w, _⟩ | ⟨dx, a, b, c⟩
  · exact absurd w hfs
  · exact ⟨z, some dx, rfl, hn, h0, a, k dx _ (fun b u q => by rw [del_ne (ne_of_none q hz)]; exact s b u q) (by rw [del_ne c]; exact b)⟩
section
variable {P : Program} {w : World} {K : PySem.W.Frag} {mg : Str → Option Value} {base : Heap} {k : Nat} {x : Str} {ps : List Str} {sp : Sp}
theorem def_ofX {st : Stmt} {N : List Str} (h : HasDef K mg x st) (S : FnScope N ps (defScope st)) (len : ∀ vs H Q E, sp vs H Q E → vs.length = ps.length)
    (hb : ∀ (kV doc pm : Value) (an : Option Addr) (cdv ct : Value) (us : List Value), us.length = ps.length → bindArgs (PySem.W.fnOf x x (defArgs st) (defBody st) (defScope st) .none kV doc pm an cdv ct) ⟨us, []⟩ = pure (ps.zip us))
    (hbody : ∀ (f : Addr) (cdv : Value) (A : Around) (outer : List Env) (s : Shared) (H : Hp) (vs : List V) (Q : VK) (E : XK), Room k (A.deeper (envOfC x (defScope st) s.heap.objs.size f cdv)) → sp vs H Q E →
      ∃ t, PSs (cxOf (CX1 P w) P w K mg base N x (defScope st) f cdv A outer s H E) (defBody st) t ∧ t { nx := fun _ H' => Q .non H', rt := Q } (start N vs) H) : Def P w K mg base (CX1 P w) (k + 1) x ps sp := by
  obtain ⟨f, fd, F, m⟩ := h
  refine ⟨f, fd, ?_, m, F.kp, F.binds hb⟩
  obtain ⟨oc, od, kV, doc, pm, an, cdv, ct, osl, rfl, lk, hcd⟩ := F.ex
  exact fn_of lk hcd S len fun A outer s H vs Q E hr hsp => hbody f cdv A outer s H vs Q E hr hsp
end
theorem nsFind_drop {es : Array DictEntry} {name x : Str} {i : Nat} (h : x ≠ name) (hi : es.findIdx? (·.key.isStr name) = some i) : nsFind (es.eraseIdxIfInBounds i) x = nsFind es x := by
  obtain ⟨l⟩ := es
  have h1 := find?_drop (·.key.isStr x) (·.key.isStr name) (isStr_other h) l
  rw [List.findIdx?_toArray] at hi
  simp only [hi] at h1
  have e1 : (l.toArray.eraseIdxIfInBounds i).find? (·.key.isStr x) = l.toArray.find? (·.key.isStr x) := by simpa using h1
  unfold nsFind findBy
  rw [e1]
section
variable {M : Model} {A : Around} {E : Value → Shared → Prop} {s : Shared}
theorem wpAny_nsDelK {a : Addr} {m} {name : Str} {Q : Bool → Shared → Prop} (hn : s.heap.Ns a m)
    (hQ : ∀ h' m', h'.Ns a m' → (∀ x, x ≠ name → m' x = m x) → Heap.SameBut a s.heap h' → Q (m name).isSome { s with heap := h' }) : wpAny M A (nsDel a name) Q E s := by
  obtain ⟨o, es, ep, ho, hd, hk, hm⟩ := id hn
  have hany : es.any (·.refKey) = false := by
    rw [Array.any_eq_false']; intro e he; obtain ⟨n, t, h⟩ := hk e he; simp [DictEntry.refKey, h]
  have hsome : (m name).isSome = es.any (·.key.isStr name) := by
    rw [← hm name]; simp only [nsFind, findBy, Option.isSome_map]
    rw [Bool.eq_iff_iff]; simp only [Array.find?_isSome, Array.any_eq_true]
    constructor
    · rintro ⟨x, hx, hp⟩; obtain ⟨i, hi, rfl⟩ := Array.mem_iff_getElem.mp hx; exact ⟨i, hi, hp⟩
    · rintro ⟨i, hi, hp⟩; exact ⟨_, Array.getElem_mem hi, hp⟩
  have hhas : nsHas name o = pure (es.any (·.key.isStr name)) := by
    rw [nsHas_eq]; unfold nsHasByArray; rw [hd]
    show (if (es.any fun x => x.key.isStr name) = true then _ else _) = _
    generalize (es.any fun x => x.key.isStr name) = b
    cases b <;> simp [hany]
  unfold nsDel
  refine wpAny_bind (wpAny_loadPart ho ?_)
  rw [hhas]
  refine wpAny_bind (wpAny_pure ?_)
  rw [← hsome]
  cases hmn : (m name).isSome
  · have := hQ s.heap m hn (fun _ _ => rfl) (.refl ..)
    rw [hmn] at this
    exact wpAny_pure this
  · refine wpAny_bind (wpAny_updatePart ho (wpAny_pure ?_))
    have key : ∃ m', (s.heap.update a (Obj.dropName name)).Ns a m' ∧ ∀ x, x ≠ name → m' x = m x := by
      obtain ⟨cl, d, dt, sl⟩ := o
      subst hd
      cases hi : es.findIdx? (·.key.isStr name) with
      | some i => exact ⟨_, ⟨_, _, ep + 1, Heap.get?_update_self _ ho (by simp only [Obj.dropName_eq, Obj.dropNameByArray, hi] <;> rfl), (by simp only [Obj.dropName_eq, Obj.dropNameByArray, hi] <;> rfl), hk.erase i, fun _ => rfl⟩, fun x hx => (nsFind_drop hx hi).trans (hm x)⟩
      | none => exact ⟨_, ⟨_, _, ep, Heap.get?_update_self _ ho (by simp only [Obj.dropName_eq, Obj.dropNameByArray, hi] <;> rfl), (by simp only [Obj.dropName_eq, Obj.dropNameByArray, hi] <;> rfl), hk, fun _ => rfl⟩, fun x hx => hm x⟩
    obtain ⟨m', hm', hx'⟩ := key
    have := hQ _ m' hm' hx' (Heap.SameBut.update ..)
    rw [hmn] at this
    exact this
end
section
variable {X : Cx} {pins : List (Addr × Obj)} {σ : St} {H : Hp} {s : Shared}
theorem name_goes {M : Model} {A : Around} {E : Value → Shared → Prop} {i : Nat} {n : Str} {pos : Pos} {Q : Unit → Shared → Prop} (I : Inv X pins σ H s) (hN : X.N.Nodup) (hi : X.N[i]? = some n) (hl : X.env.scope.names.lookup n = some .local)
    (h : ∀ s', Inv X pins (σ.set i none) H s' → Q () s') : wpAny M A (do bindName X.env n .none; unbindBehindTheSuite X.env n pos) Q E s := by
  have hp : (X.env.scope.kind == .class || (X.env.scope.kind == .module && X.env.locals != X.env.globals)) = false := by rw [I.ok.kind]; rfl
  have hl' : X.env.kindOf n = some .local := hl
  have hiσ : i < σ.length := by rw [I.len]; exact (List.getElem?_eq_some_iff.mp hi).1
  refine wpAny_bind (wpAny_bindName (store_ok (v := V.non) (u := Value.none) I hN hi (.inl hl) rfl (fun s1 I1 => ?_) (.inr hl)))
  unfold unbindBehindTheSuite
  refine wpAny_onRaise ?_
  unfold unbindName
  refine wpAny_bind (wpAny_point (wpAny_bind ?_))
  unfold deleteName
  simp only [hl', hp]
  rw [if_neg (by decide)]
  obtain ⟨m, hn, hm⟩ := id I1.loc
  have hmn : (m n).isSome = true := by
    obtain ⟨u, _, q⟩ := hm i n .non hi (by rw [List.getElem?_set_self hiσ]) (.inl hl)
    rcases q with ⟨_, e⟩ | ⟨k, _⟩
    · rw [e]; rfl
    · rw [hl'] at k
      rcases k with k | k <;> cases k
  have cne := I1.cne
  refine wpAny_bind (wpAny_nsDelK hn fun h₂ m₂ hn₂ hk hs => ?_)
  rw [hmn]
  simp only [if_true, Bool.not_true, Bool.false_eq_true, if_false]
  refine wpAny_pure (wpAny_point (h _ ?_))
  obtain ⟨oL, _, _, hoL, _⟩ := id hn
  refine ⟨I1.ok, I1.os, I1.bare, ⟨fun b o e n hb hx => ?_, fun b o e n hb hx => ?_, I1.base.free, fun b o e hx => ?_, I1.base.tups, I1.base.frzs, I1.base.tbls⟩, ⟨_, hn₂, fun j y v' e1 e2 e3 => ?_⟩, fun y c e => ?_, I1.free, I1.freeC, fun p hp => ?_, fun b ob e => ?_, by rw [List.length_set]; exact I.len⟩
  · exact (hs.2 b (Nat.ne_of_lt (Nat.lt_of_lt_of_le (Heap.lt_size e) I1.ok.above))).trans (I1.base.keep b o e n hb hx)
  · obtain ⟨sl, e1⟩ := I1.base.slot b o e n hb hx
    exact ⟨sl, (hs.2 b (Nat.ne_of_lt (Nat.lt_of_lt_of_le (Heap.lt_size e) I1.ok.above))).trans e1⟩
  · obtain ⟨o', e1⟩ := I1.base.there b o e hx
    exact ⟨o', (hs.2 b (Nat.ne_of_lt (Nat.lt_of_lt_of_le (Heap.lt_size e) I1.ok.above))).trans e1⟩
  · by_cases hj : j = i
    · subst hj
      rw [List.getElem?_set_self hiσ] at e2
      cases e2
    · rw [List.getElem?_set_ne (Ne.symm hj)] at e2
      obtain ⟨u', r', q⟩ := hm j y v' e1 (by rw [List.getElem?_set_ne (Ne.symm hj)]; exact e2) e3
      refine ⟨u', r', ?_⟩
      rcases q with ⟨k, e⟩ | ⟨k, c, e, z⟩
      · refine .inl ⟨k, ?_⟩
        have : y ≠ n := fun e => hj (nodup_ix hN e1 (e ▸ hi))
        rw [hk y this]
        exact e
      · exact .inr ⟨k, c, e, z.sameBut hs (cne y c e)⟩
  · obtain ⟨w', z⟩ := I1.cell y c e
    exact ⟨w', z.sameBut hs (cne y c e)⟩
  · obtain ⟨e, n, ne, nf, d⟩ := I1.pin p hp
    exact ⟨(hs.2 p.1 ne).trans e, n, ne, nf, d⟩
  · refine (I1.hok b ob e).stay (fun c w' hc q => (hs.2 c ?_).trans q) (fun _ q => q) fun _ _ q => q
    rintro rfl
    rcases hc with rfl | hc
    · rw [I1.free] at e; cases e
    · rw [I1.free] at hc; cases hc
end
section
variable {M : Model} {A : Around} {E : Value → Shared → Prop} {s : Shared} {base : Heap} {env : Env} {outer : List Env} {L e : Addr} {oe : Obj} {vs : Array Value}
theorem note_next {Q : Unit → Shared → Prop} {T0 : Addr} {o0 : Obj} {ts0 : Array Value} (hfr : A.frames = some (env :: outer)) (hl : s.heap.FunFrames base (env :: outer)) (hf : env.frame = some L) (he : s.heap.get? e = some oe) (hd : oe.data = .fields vs) (h1 : vs[1]? = some (.ref T0))
    (hT : s.heap.get? T0 = some o0) (hdT : o0.data = .fields ts0) (h3 : ts0[3]? = some .none) (hTe : T0 ≠ e)
    (h : ∀ h' T, Left (frs (env :: outer)) s.heap h' e oe vs T → Q () { s with heap := h' }) : wpAny M A (noteFrame (.ref e) env) (fun _ s' => wpAny M A (setFlight (.ref e) none) Q E s') E s := by
  unfold noteFrame
  simp only [hf]
  refine wpAny_bind (wpAny_field he hd h1 ?_)
  rw [if_pos (show (Value.ref T0 != Value.none) = true from by simp)]
  refine wpAny_bind (wpAny_field hT hdT h3 ?_)
  rw [if_neg (show ¬ ((Value.none == rawInt L) = true) from by simp [rawInt])]
  refine wpAny_bind (wpAny_setField hT hdT (Array.getElem?_eq_some_iff.mp h3).1 ?_)
  have hoth : ∀ b, b ≠ T0 → (s.heap.update T0 (Obj.mapFields (·.setIfInBounds 3 Value.none))).get? b = s.heap.get? b := fun b hb => Heap.get?_update_other _ _ (Ne.symm hb)
  have hno : ∀ b o, s.heap.get? b = some o → (∀ z, o.data ≠ .fields z) → b ≠ T0 := fun b o z hn q => by
    rw [q, hT] at z; cases z
    exact hn ts0 hdT
  have hl2 : (s.heap.update T0 (Obj.mapFields (·.setIfInBounds 3 Value.none))).FunFrames base (env :: outer) := hl.of_keeps fun b o z hn => ⟨o, (hoth b (hno b o z hn)).trans z, rfl⟩
  refine leave_tail (s := { s with heap := s.heap.update T0 (Obj.mapFields (·.setIfInBounds 3 Value.none)) }) hfr hl2 hf ((hoth e (Ne.symm hTe)).trans he) hd (Array.getElem?_eq_some_iff.mp h1).1 fun h' T lf => h h' T ⟨fun b o hb hn z hz => lf.keep b o hb hn ((hoth b (hz T0 h1)).trans z) hz, fun b o hb z => ?_, ?_, lf.ent, lf.obj⟩
  · obtain ⟨_, o', ho', hn'⟩ := hl.mem hb
    rw [z] at ho'; cases ho'
    exact lf.slot b o hb ((hoth b (hno b o z hn')).trans z)
  · have := lf.new
    rw [Heap.size_update] at this
    exact this
end
abbrev Cx.pinned (X : Cx) (pins : List (Addr × Obj)) : Cx := { X with pn := X.pn ++ pins }
section
variable {X : Cx} {pins pins' : List (Addr × Obj)} {σ : St} {H : Hp} {s : Shared} {a : Addr}
theorem Inv.pinC (I : Inv X pins σ H s) : Inv (X.pinned pins) [] σ H s :=
  ⟨⟨I.ok.mod, I.ok.kind, I.ok.glob, I.ok.blt, I.ok.above, I.ok.inj, I.ok.has, I.ok.cab, I.ok.hd, I.ok.frames, I.ok.stk, I.ok.exf, I.ok.bs, I.ok.bsz, I.ok.noex, I.ok.exfs, I.ok.funs, I.ok.frf⟩, I.os, I.bare, I.base, I.loc, I.cell, I.free, I.freeC, fun p hp => I.pin p (by
    have hp : p ∈ (X.pn ++ pins) ++ [] := hp
    rw [List.append_nil] at hp
    exact hp), I.hok, I.len⟩
theorem Inv.unpinC (I : Inv (X.pinned pins) pins' σ H s) : Inv X pins σ H s :=
  ⟨⟨I.ok.mod, I.ok.kind, I.ok.glob, I.ok.blt, I.ok.above, I.ok.inj, I.ok.has, I.ok.cab, I.ok.hd, I.ok.frames, I.ok.stk, I.ok.exf, I.ok.bs, I.ok.bsz, I.ok.noex, I.ok.exfs, I.ok.funs, I.ok.frf⟩, I.os, I.bare, I.base, I.loc, I.cell, I.free, I.freeC, fun p hp => I.pin p (List.mem_append_left _ hp), I.hok, I.len⟩
abbrev Cx.hand (X : Cx) (a : Addr) : Cx := { X with A := X.A.mark (some (.ref a)), calm := false, xe := fun _ _ => False }
theorem Inv.hand (I : Inv X pins σ H s) : Inv (X.hand a) pins σ H s :=
  ⟨⟨I.ok.mod, I.ok.kind, I.ok.glob, I.ok.blt, I.ok.above, I.ok.inj, I.ok.has, I.ok.cab, (fun h => by cases h), I.ok.frames, I.ok.stk, I.ok.exf, I.ok.bs, I.ok.bsz, I.ok.noex, I.ok.exfs, I.ok.funs, I.ok.frf⟩, I.os, I.bare, I.base, I.loc, I.cell, I.free, I.freeC, I.pin, I.hok, I.len⟩
theorem Inv.unhand (ok : X.Ok) (I : Inv (X.hand a) pins σ H s) : Inv X pins σ H s :=
  ⟨ok, I.os, I.bare, I.base, I.loc, I.cell, I.free, I.freeC, I.pin, I.hok, I.len⟩
end
abbrev Cx.tr (X : Cx) (pins : List (Addr × Obj)) (EX : St → XK) : Cx := (X.pinned pins).wish fun ev s' => ∃ pins' σ' H1 s1, Inv (X.pinned pins) pins' σ' H1 s1 ∧ CX1 X.prog X.w X.stack H1 s1 (EX σ') ev s'
def excT (a C : Addr) (dx : Option Addr) : HO := .ext fun h => ∃ oe vs, h.get? a = some oe ∧ oe.cls = .ref C ∧ oe.dict = dx ∧ oe.data = .fields vs
theorem excT_ok {P : Program} {w : World} {H : Hp} {h : Heap} {a C : Addr} {dx : Option Addr} {oe : Obj} {vs : Array Value} (q : h.get? a = some oe) (hc : oe.cls = .ref C) (hd : oe.dict = dx) (hf : oe.data = .fields vs) : ObjOk P w H h a (excT a C dx) :=
  ⟨⟨oe, vs, q, hc, hd, hf⟩, ⟨_, q⟩, fun h1 h2 ⟨oe, vs, z, r⟩ k => ⟨oe, vs, k _ z, r⟩⟩
def ExcT (H : Hp) (x C : Addr) (fs : List (Str × V)) : Prop := (fs = [] ∧ H x = some (excT x C none)) ∨ ∃ dx, H x = some (excT x C (some dx)) ∧ H dx = some (dctO dx fs) ∧ dx ≠ x
theorem ExcT.mk {H : Hp} {a C dx : Addr} {fs : List (Str × V)} (hd : H dx = some (dctO dx fs)) (ha : H a = none) : ExcT (upd H a (excT a C (some dx))) a C fs :=
  .inr ⟨dx, upd_same, by rw [upd_ne (ne_of_none hd ha)]; exact hd, ne_of_none hd ha⟩
structure Caught (X : Cx) (pins : List (Addr × Obj)) (σ : St) (H : Hp) (s : Shared) (a C : Addr) (dx : Option Addr) : Prop where
  I : Inv X pins σ H s
  ha : H a = some (excT a C dx)
  tb : ∃ T oe vs oT ts, s.heap.get? a = some oe ∧ oe.data = .fields vs ∧ vs[1]? = some (.ref T) ∧ s.heap.get? T = some oT ∧ oT.data = .fields ts ∧ 3 < ts.size ∧ H T = none ∧ T ≠ X.env.locals ∧ (T ∈ X.ex ∨ X.s₀.heap.objs.size ≤ T) ∧ (∀ x c, X.env.cells.lookup x = some c → c ≠ T) ∧ ∀ p ∈ X.pn ++ pins, p.1 ≠ T
abbrev THd := Ends → Addr → Addr → Option Addr → St → Hp → Prop
def PH (X : Cx) (hs : List ExceptHandler) (t : THd) : Prop :=
  ∀ (pins : List (Addr × Obj)) (s : Shared) (σ : St) (H : Hp) (C a : Addr) (dx : Option Addr) (D : Ends), Caught X pins σ H s a C dx → t D C a dx σ H → wpAny (model X.prog X.w) X.A (handleBy (.ref a) X.env hs) (SP X pins D) X.xe s
def Ends.forget (D : Ends) (i : Nat) : Ends := ⟨fun σ H => D.nx (σ.set i none) H, D.rt, fun σ H => D.bk (σ.set i none) H, fun σ H => D.ct (σ.set i none) H⟩
def hNil : THd := fun _ _ _ _ _ _ => False
def hAs (K : PySem.W.Frag) (d : Addr) (i : Nat) (th : Addr → TS) (tr : THd) : THd := fun D C a dx σ H => ∃ b, PySem.W.exmOne K (.ref C) (.ref d) = some b ∧ if b = true then th a (D.forget i) (σ.set i (some (.ref a))) H else tr D C a dx σ H
section
variable {X : Cx} {x n : Str} {d : Addr} {i : Nat} {b₀ : Stmt} {suite : List Stmt} {rest : List ExceptHandler} {th : Addr → TS} {tr : THd} {p pos : Pos}
theorem ph_nil : PH X [] hNil := fun _ _ _ _ _ _ _ _ _ h => h.elim
theorem Caught.lit {pins : List (Addr × Obj)} {σ : St} {H : Hp} {s : Shared} {a C : Addr} {dx : Option Addr} {A : Around} {E : Value → Shared → Prop} {Q : Unit → Shared → Prop} (c : Caught X pins σ H s a C dx) (h : ∀ s', Inv X pins σ H s' → Q () s') : wpAny (model X.prog X.w) A (setFlight (.ref a) none) Q E s := by
  obtain ⟨T, oe, vs, oT, ts, ga, gf, g1, gT, gt, g3, hT, n1, n2, n3, n4⟩ := c.tb
  exact wpAny_setFlight_none ga gf g1 gT gt g3 (h _ (c.I.turned (t' := s.toks) (fun b o hb e => (Heap.get?_update_other _ _ (Ne.symm hb)).trans e) hT n1 n2 n3 n4))
theorem exc_instT {pins : List (Addr × Obj)} {σ : St} {H : Hp} {s : Shared} {a C : Addr} {fs : List (Str × V)} (I : Inv X pins σ H s) (h : ExcT H a C fs) : ∃ oe odo, PySem.W.InstAt s.heap a oe C odo := by
  rcases h with ⟨_, b⟩ | ⟨dx, a', b, _⟩
  · obtain ⟨⟨oe, vs, ge, gc, gd, gf⟩, _, _⟩ : ObjOk X.prog X.w H s.heap a (excT a C none) := I.hok a _ b
    exact ⟨oe, none, ge, gc, exc_notCls gf, by rw [gd]; trivial⟩
  · obtain ⟨⟨oe, vs, ge, gc, gd, gf⟩, _, _⟩ : ObjOk X.prog X.w H s.heap a (excT a C (some dx)) := I.hok a _ a'
    obtain ⟨⟨mA, nn, _⟩, _, _⟩ : ObjOk X.prog X.w H s.heap dx (dctO dx fs) := I.hok dx _ b
    obtain ⟨od, ho, _⟩ := lookIn_ns nn
    exact ⟨oe, some od, ge, gc, exc_notCls gf, by rw [gd]; exact ho⟩
theorem Caught.type {pins : List (Addr × Obj)} {σ : St} {H : Hp} {s : Shared} {a C : Addr} {dx : Option Addr} (c : Caught X pins σ H s a C dx) : PySem.W.Looks (model X.prog X.w) s.heap (typeOf (.ref a)) (.ref C) := by
  obtain ⟨⟨oe, vs, ge, gc, gd, gf⟩, _, _⟩ : ObjOk X.prog X.w H s.heap a (excT a C dx) := c.I.hok a _ c.ha
  exact gc ▸ (PySem.W.Looks.ld ge).andThen .now
theorem ph_as (hm : X.mg x = some (.ref d)) (hs : ∀ a, PSs (X.hand a) (b₀ :: suite) (th a)) (hrest : PH X rest tr) (hN : X.N.Nodup) (hi : X.N[i]? = some n) (hl : X.env.scope.names.lookup n = some .local) (hg : Gl X x := by rfl)
    (hdb : (x == ("__debug__" : Str)) = false := by decide) : PH X (.ExceptHandler (some (.Name x p)) (some n) (b₀ :: suite) pos :: rest) (hAs X.K d i th tr) := by
  intro pins s σ H C a dx D c h
  obtain ⟨b, hb, h⟩ := h
  refine wpAny_handleBy_cons (codeAny_handlers_test (ld_glob (X := X.hand a) c.I.hand hg hm ?_ hdb)) (by intro q; cases q)
  refine (PySem.W.exm_one (M := model X.prog X.w) c.I.kIn c.type hb).here ?_
  cases b with
  | false =>
    rw [if_neg Bool.false_ne_true] at h
    exact hrest pins s σ H C a dx D c h
  | true =>
    rw [if_pos rfl] at h
    show codeAny _ _ _ _ _
    refine codeAny_handlers_suite_as (c.lit fun s1 I1 => store_ok I1 hN hi (.inl hl) (v := V.ref a) rfl (fun s2 I2 => ?_) (.inr hl))
    refine wpAny_mono (hs a pins s2 (σ.set i (some (.ref a))) H (D.forget i) I2.hand h) (fun f s3 q => ?_) fun _ _ z => z.elim
    show wpAny (model X.prog X.w) X.A (do bindName X.env n .none; unbindBehindTheSuite X.env n pos) _ _ s3
    cases f with
    | next =>
      obtain ⟨σ', H', I', q⟩ := q
      exact name_goes (I'.unhand c.I.ok) hN hi hl fun s4 I4 => ⟨_, H', I4, q⟩
    | brk =>
      obtain ⟨σ', H', I', q⟩ := q
      exact name_goes (I'.unhand c.I.ok) hN hi hl fun s4 I4 => ⟨_, H', I4, q⟩
    | cont =>
      obtain ⟨σ', H', I', q⟩ := q
      exact name_goes (I'.unhand c.I.ok) hN hi hl fun s4 I4 => ⟨_, H', I4, q⟩
    | ret u =>
      obtain ⟨v, σ', H', I', r, q⟩ := q
      exact name_goes (I'.unhand c.I.ok) hN hi hl fun s4 I4 => ⟨v, _, H', I4, r, q⟩
end
def tTry (tb : List (Addr × Obj) → (St → XK) → TS) (th : THd) : TS := fun D σ H => ∀ pins, tb pins (fun σ' cv dx H' => ∃ C, cv = .ref C ∧ ∀ a, H' a = none → th D C a dx σ' (upd H' a (excT a C dx))) D σ H
section
variable {X : Cx} {body : List Stmt} {h₀ : ExceptHandler} {hs : List ExceptHandler} {tb : List (Addr × Obj) → (St → XK) → TS} {th : THd} {pos : Pos}
theorem ps_try (hb : ∀ pins EX, PSs (X.tr pins EX) body (tb pins EX)) (hh : PH X (h₀ :: hs) th) (hst : X.stack = X.env :: X.outer := by rfl) (hf : X.env.frame = some X.env.locals := by rfl) : PS X (.Try body (h₀ :: hs) [] [] pos) (tTry tb th) := by
  intro pins s σ H D I h
  refine wpAny_Try_except (wpAny_mono (hb pins _ [] s σ H D (I.pinC.wish _) (h pins)) (fun f s1 q => ?_) fun ev s1 q => ?_)
  · cases f with
    | next =>
      obtain ⟨σ', H', I', q⟩ := q
      exact wpAny_execs_nil ⟨σ', H', I'.unwish.unpinC, q⟩
    | brk =>
      obtain ⟨σ', H', I', q⟩ := q
      exact ⟨σ', H', I'.unwish.unpinC, q⟩
    | cont =>
      obtain ⟨σ', H', I', q⟩ := q
      exact ⟨σ', H', I'.unwish.unpinC, q⟩
    | ret u =>
      obtain ⟨v, σ', H', I', r, q⟩ := q
      exact ⟨v, σ', H', I'.unwish.unpinC, r, q⟩
  · obtain ⟨pins', σ', H1, s2, I1, a, C, dx, H', rfl, hos, hbr, un, hok, ⟨oe, vs, T, oT, ts, ga, gc, gd, gf, g1, gne, gT, gt, g3, ha, hT, na, nT⟩, C', eC, q⟩ := q
    cases eC
    have I1 : Inv X pins σ' H1 s2 := I1.unpinC
    have I2 : Inv X pins σ' H' s1 := I1.call' (ch := []) hos un hok hbr (fun b z => absurd z (by simp))
    refine note_next (base := X.base) (by rw [I.ok.frames, hst]) (by rw [← hst]; exact I2.stack) hf ga gf g1 gT gt g3 gne fun h' T' lf => ?_
    have hz : ∀ z, vs[1]? = some (.ref z) → z = T := fun z hz => by rw [g1] at hz; cases hz; rfl
    have hstk : ∀ b ∈ frs (X.env :: X.outer), H' b = none := by rw [← hst]; exact I2.stkFree
    have hok' : HOk X.prog X.w H' h' := left_hok hok lf ha (fun z h => by rw [hz z h]; exact hT) hstk
    have lo : ∀ b o, s2.heap.get? b = some o → ∀ c, s2.heap.objs.size ≤ c → b ≠ c := fun b o z c hc => Nat.ne_of_lt (Nat.lt_of_lt_of_le (Heap.lt_size z) hc)
    have far : ∀ c, s2.heap.objs.size ≤ c → (c ∈ X.ex ∨ X.s₀.heap.objs.size ≤ c) ∧ c ≠ X.env.locals ∧ (∀ x d, X.env.cells.lookup x = some d → d ≠ c) ∧ ∀ p ∈ X.pn ++ pins, p.1 ≠ c := fun c hc =>
      ⟨.inr (Nat.le_trans I1.sz hc), Ne.symm (Nat.ne_of_lt (Nat.lt_of_lt_of_le I1.lt hc)), fun x d hd => by
        obtain ⟨v, ob, ho, _⟩ := I1.cell x d hd
        exact lo d ob ho c hc, fun p hp => lo _ _ (I1.pin p hp).1 c hc⟩
    have u3 : Un (frs X.stack) [a, T] H' H' s1.heap h' := by
      rw [hst]
      refine ⟨fun b o q n hb hx => ?_, fun b o q n hb hx => lf.slot b o hb q, fun b o q n hx => n, fun b o q hx => ?_, fun _ _ e => e, fun _ _ _ e => e, fun b ps e => ⟨#[], by rw [e]; simp⟩⟩
      · exact lf.keep b o (fun z => hx (by simp [z])) hb q fun z hz' z2 => hx (by rw [z2, hz z hz']; simp)
      · by_cases m : b ∈ frs (X.env :: X.outer)
        · obtain ⟨sl, z⟩ := lf.slot b o m q
          exact ⟨_, z⟩
        · exact ⟨o, lf.keep b o (fun z => hx (by simp [z])) m q fun z hz' z2 => hx (by rw [z2, hz z hz']; simp)⟩
    have I3 : Inv X pins σ' H' { s1 with heap := h' } := I2.call (g' := s1.gens) (d' := s1.drawn) (t' := s1.toks) u3 hok' hbr fun b hb => by
      rcases List.mem_cons.mp hb with rfl | hb
      · exact far _ na
      · rw [List.mem_singleton.mp hb]; exact far _ nT
    have new : s2.heap.objs.size ≤ T' := by
      refine Nat.le_trans ?_ lf.new
      exact Nat.le_trans na (Nat.le_of_lt (Heap.lt_size ga))
    have hT' : H' T' = none := I2.hok.fresh lf.new
    have nTa : T' ≠ a := fun z => absurd (Heap.lt_size ga) (by rw [← z]; exact Nat.not_lt.mpr lf.new)
    have I4 : Inv X pins σ' (upd H' a (excT a C dx)) { s1 with heap := h' } := I3.track I1 na ha (excT_ok lf.obj gc gd rfl)
    obtain ⟨oT', ts', gT', gt', g3'⟩ := lf.ent
    obtain ⟨f1, f2, f3, f4⟩ := far T' new
    refine hh pins _ σ' _ C a dx D ⟨I4, upd_same, T', _, _, oT', ts', lf.obj, rfl, ?_, gT', gt', (Array.getElem?_eq_some_iff.mp g3').1, by rw [upd_ne nTa]; exact hT', f2, f1, f3, f4⟩ (q a ha)
    have : 1 < vs.size := (Array.getElem?_eq_some_iff.mp g1).1
    simp [this]
end
def tExFT (C : Addr) (ta : TE) (f : Str) : TE := fun σ H Q => ta σ H fun x H1 => ∃ a fs v, x = .ref a ∧ ExcT H1 a C fs ∧ fs.lookup f = some v ∧ Q v H1
def rIsXT (K : PySem.W.Frag) : List V → Hp → VK → Prop := fun xs H Q => ∃ x c C R fs b, xs = [.ref x, c] ∧ ExcT H x C fs ∧ ExcI K C R ∧ clsIs K (.ref C) c = some b ∧ Q (.bl b) H
section
variable {X : Cx}
theorem pe_exfT {C : Addr} {o : Expr} {f : Str} {ta : TE} {pos : Pos} (G : ExcG X.K C) (n : NoAttr X.K C f) (he : PE X o ta) (hb : attributeBase o f X.env (eval o X.env) = eval o X.env := by rfl) : PE X (.Attribute o f pos) (tExFT C ta f) := by
  intro pins s σ H Q I h
  refine attr_of hb (thn (he pins s σ H _ I h) fun u s1 ⟨x, H1, I1, rx, a, fs, v, ex, ea, l, q⟩ => ?_)
  subst ex
  obtain rfl : u = Value.ref a := rx
  rcases ea with ⟨rfl, _⟩ | ⟨dx, ea, ed, _⟩
  · cases l
  · obtain ⟨⟨oe, vs, ge, gc, gd, gf⟩, _, _⟩ : ObjOk X.prog X.w H1 s1.heap a (excT a C (some dx)) := I1.hok a _ ea
    obtain ⟨⟨mA, nn, r, wi, hl⟩, _, _⟩ : ObjOk X.prog X.w H1 s1.heap dx (dctO dx fs) := I1.hok dx _ ed
    obtain ⟨u', hu, ru⟩ := RelO.some_of (v := v) (o := mA f) (by rw [← l]; exact r f)
    exact exc_get I1.kIn ge gc gd gf nn G.ga G.gb G.mb G.hd n hu (handed_of ru) ⟨v, H1, I1.tok _, ru, q⟩
theorem call_isXT : CallR X (.builtin "isinstance") (rIsXT X.K) := by
  intro pins s σ H xs us Q I r h
  obtain ⟨x, c, C, R, fs, b, rfl, ex, G, e, q⟩ := h
  obtain ⟨u, v, rfl, ru, rv⟩ := vals2 r
  obtain rfl : u = Value.ref x := ru
  cases c with
  | ty T =>
    obtain rfl : v = Value.type T := rv
    exact PySem.W.kia_one (kitx_exc G) I.kIn (exc_instT I ex) e (fun z => nomatch z) fun tk => ⟨.bl b, H, I.tok _, rfl, q⟩
  | ref D =>
    obtain rfl : v = Value.ref D := rv
    exact PySem.W.kia_one (kitx_exc G) I.kIn (exc_instT I ex) e (fun z => nomatch z) fun tk => ⟨.bl b, H, I.tok _, rfl, q⟩
  | _ => cases e
end
theorem exm_same {K : PySem.W.Frag} {C R : Addr} (G : ExcI K C R) : PySem.W.exmOne K (.ref C) (.ref C) = some true := by
  have hb : PySem.W.subIn K (.ref C) (.type "BaseException") = some true := G.g.mb
  unfold PySem.W.exmOne
  rw [hb, if_pos (by rfl)]
  obtain ⟨cd, hc, _⟩ := Option.map_eq_some_iff.mp G.mro
  unfold PySem.W.kitCls
  simp only
  rw [if_pos (by rw [hc, G.ty]; rfl)]
  show PySem.W.mroIn K C (.ref C) = _
  rw [G.in]
  simp [List.contains_cons]
theorem exm_up {K : PySem.W.Frag} {C R : Addr} (G : ExcI K C R) (hR : (PySem.W.clsIn K R).isSome = true) (tR : PySem.W.typeIn K (.ref R) = some (.type "type")) (mR : PySem.W.mroIn K R (.type "BaseException") = some true) : PySem.W.exmOne K (.ref C) (.ref R) = some true := by
  have hb : PySem.W.subIn K (.ref R) (.type "BaseException") = some true := mR
  unfold PySem.W.exmOne
  rw [hb, if_pos (by rfl)]
  unfold PySem.W.kitCls
  simp only
  rw [if_pos (by rw [hR, tR]; rfl)]
  show PySem.W.mroIn K C (.ref R) = _
  rw [G.in]
  simp [List.contains_cons]
section
variable {σ : St} {H : Hp} {D : Ends} {tb : List (Addr × Obj) → (St → XK) → TS} {th : THd} {tr : TA} {Q : VK} {EX : St → XK} {sp : Sp}
theorem go_caught {K : PySem.W.Frag} {d C a : Addr} {dx : Option Addr} {i : Nat} {tha : Addr → TS} {rest : THd} (e : PySem.W.exmOne K (.ref C) (.ref d) = some true) (h : tha a (D.forget i) (σ.set i (some (.ref a))) H) : hAs K d i tha rest D C a dx σ H := ⟨true, e, by rw [if_pos rfl]; exact h⟩
end
def rIsT (K : PySem.W.Frag) : List V → Hp → VK → Prop := fun xs H Q => ∃ x d t b, xs = [x, d] ∧ TyOf K H x t ∧ clsIs K t d = some b ∧ Q (.bl b) H
theorem call_isT {X : Cx} : CallR X (.builtin "isinstance") (rIsT X.K) := call_isinstance
theorem boot_reversed : bootBuiltins "reversed" = some (.type "reversed") := by decide +kernel
section
variable {X : Cx}
def rSetA : V → V → V → Hp → (Hp → Prop) → Prop := fun o i v H Q => ∃ p xs k j, o = .ref p ∧ i = .int k ∧ H p = some (.lst xs) ∧ ixN xs.length k = some j ∧ ∀ H', Off p H H' → H' p = some (.lst (xs.set j v)) → Q H'
theorem set_listA : PSet X rSetA := by
  intro pins s σ H o i v ov iv u Q I ro ri rv h
  obtain ⟨p, xs, k, j, e1, e2, hp, hj, q⟩ := h
  exact set_list pins s σ H o i v ov iv u Q I ro ri rv ⟨p, xs, k, j, e1, e2, hp, hj, q _ Off.upd upd_same⟩
def rSlA (K : PySem.W.Frag) : V → Option Int → Option Int → Hp → VK → Prop := fun x lo hi H Q => ∃ a xs, x = .ref a ∧ SqL K H a xs ∧ ∀ p H', New H H' p (.lst (cutV xs lo hi)) → Q (.ref p) H'
theorem sl_listA : SlR X (rSlA X.K) := by
  intro pins s σ H x v vl vu lo hi sl Q I rx hs pl pu h
  obtain ⟨a, xs, e, hx, q⟩ := h
  exact sl_list pins s σ H x v vl vu lo hi sl Q I rx hs pl pu ⟨a, xs, e, hx, fun p hp => q p _ (.mk' hp)⟩
def rLOfA (K : PySem.W.Frag) : List V → Hp → VK → Prop := fun xs H Q => ∃ p ys, xs = [.ref p] ∧ (SqL K H p ys ∨ SqT K H p ys) ∧ ∀ l H', New H H' l (.lst ys) → Q (.ref l) H'
theorem call_list_ofA : CallR X (.type "list") (rLOfA X.K) := by
  intro pins s σ H xs us Q I r h
  obtain ⟨p, ys, e, hq, q⟩ := h
  exact call_list_of pins s σ H xs us Q I r ⟨p, ys, e, hq, fun l hl => q l _ (.mk' hl)⟩
end
section
variable {σ : St} {H : Hp} {Q : VK} {v x y : V} {i j : Int} {K : PySem.W.Frag} {t ta tb tc : TE} {tr : TA} {s u : TS} {D : Ends} {c d : TT}
theorem wv0 {r : St} (h : Q v H) : tVar 0 (some v :: r) H Q := ⟨v, rfl, h⟩
theorem wn0 {o : Option V} {r : St} {R : St → Hp → Prop} (h : R (some v :: r) H) : gName 0 v (o :: r) H R := h
theorem wv1 {o0 : Option V} {r : St} (h : Q v H) : tVar 1 (o0 :: some v :: r) H Q := ⟨v, rfl, h⟩
theorem wn1 {o0 : Option V} {o : Option V} {r : St} {R : St → Hp → Prop} (h : R (o0 :: some v :: r) H) : gName 1 v (o0 :: o :: r) H R := h
theorem wv2 {o0 o1 : Option V} {r : St} (h : Q v H) : tVar 2 (o0 :: o1 :: some v :: r) H Q := ⟨v, rfl, h⟩
theorem wn2 {o0 o1 : Option V} {o : Option V} {r : St} {R : St → Hp → Prop} (h : R (o0 :: o1 :: some v :: r) H) : gName 2 v (o0 :: o1 :: o :: r) H R := h
theorem wv3 {o0 o1 o2 : Option V} {r : St} (h : Q v H) : tVar 3 (o0 :: o1 :: o2 :: some v :: r) H Q := ⟨v, rfl, h⟩
theorem wn3 {o0 o1 o2 : Option V} {o : Option V} {r : St} {R : St → Hp → Prop} (h : R (o0 :: o1 :: o2 :: some v :: r) H) : gName 3 v (o0 :: o1 :: o2 :: o :: r) H R := h
theorem wv4 {o0 o1 o2 o3 : Option V} {r : St} (h : Q v H) : tVar 4 (o0 :: o1 :: o2 :: o3 :: some v :: r) H Q := ⟨v, rfl, h⟩
theorem wn4 {o0 o1 o2 o3 : Option V} {o : Option V} {r : St} {R : St → Hp → Prop} (h : R (o0 :: o1 :: o2 :: o3 :: some v :: r) H) : gName 4 v (o0 :: o1 :: o2 :: o3 :: o :: r) H R := h
theorem wv5 {o0 o1 o2 o3 o4 : Option V} {r : St} (h : Q v H) : tVar 5 (o0 :: o1 :: o2 :: o3 :: o4 :: some v :: r) H Q := ⟨v, rfl, h⟩
theorem wn5 {o0 o1 o2 o3 o4 : Option V} {o : Option V} {r : St} {R : St → Hp → Prop} (h : R (o0 :: o1 :: o2 :: o3 :: o4 :: some v :: r) H) : gName 5 v (o0 :: o1 :: o2 :: o3 :: o4 :: o :: r) H R := h
theorem wv6 {o0 o1 o2 o3 o4 o5 : Option V} {r : St} (h : Q v H) : tVar 6 (o0 :: o1 :: o2 :: o3 :: o4 :: o5 :: some v :: r) H Q := ⟨v, rfl, h⟩
theorem wn6 {o0 o1 o2 o3 o4 o5 : Option V} {o : Option V} {r : St} {R : St → Hp → Prop} (h : R (o0 :: o1 :: o2 :: o3 :: o4 :: o5 :: some v :: r) H) : gName 6 v (o0 :: o1 :: o2 :: o3 :: o4 :: o5 :: o :: r) H R := h
theorem wv7 {o0 o1 o2 o3 o4 o5 o6 : Option V} {r : St} (h : Q v H) : tVar 7 (o0 :: o1 :: o2 :: o3 :: o4 :: o5 :: o6 :: some v :: r) H Q := ⟨v, rfl, h⟩
theorem wn7 {o0 o1 o2 o3 o4 o5 o6 : Option V} {o : Option V} {r : St} {R : St → Hp → Prop} (h : R (o0 :: o1 :: o2 :: o3 :: o4 :: o5 :: o6 :: some v :: r) H) : gName 7 v (o0 :: o1 :: o2 :: o3 :: o4 :: o5 :: o6 :: o :: r) H R := h
theorem wv8 {o0 o1 o2 o3 o4 o5 o6 o7 : Option V} {r : St} (h : Q v H) : tVar 8 (o0 :: o1 :: o2 :: o3 :: o4 :: o5 :: o6 :: o7 :: some v :: r) H Q := ⟨v, rfl, h⟩
theorem wn8 {o0 o1 o2 o3 o4 o5 o6 o7 : Option V} {o : Option V} {r : St} {R : St → Hp → Prop} (h : R (o0 :: o1 :: o2 :: o3 :: o4 :: o5 :: o6 :: o7 :: some v :: r) H) : gName 8 v (o0 :: o1 :: o2 :: o3 :: o4 :: o5 :: o6 :: o7 :: o :: r) H R := h
theorem wv9 {o0 o1 o2 o3 o4 o5 o6 o7 o8 : Option V} {r : St} (h : Q v H) : tVar 9 (o0 :: o1 :: o2 :: o3 :: o4 :: o5 :: o6 :: o7 :: o8 :: some v :: r) H Q := ⟨v, rfl, h⟩
theorem wn9 {o0 o1 o2 o3 o4 o5 o6 o7 o8 : Option V} {o : Option V} {r : St} {R : St → Hp → Prop} (h : R (o0 :: o1 :: o2 :: o3 :: o4 :: o5 :: o6 :: o7 :: o8 :: some v :: r) H) : gName 9 v (o0 :: o1 :: o2 :: o3 :: o4 :: o5 :: o6 :: o7 :: o8 :: o :: r) H R := h
theorem wv10 {o0 o1 o2 o3 o4 o5 o6 o7 o8 o9 : Option V} {r : St} (h : Q v H) : tVar 10 (o0 :: o1 :: o2 :: o3 :: o4 :: o5 :: o6 :: o7 :: o8 :: o9 :: some v :: r) H Q := ⟨v, rfl, h⟩
theorem wn10 {o0 o1 o2 o3 o4 o5 o6 o7 o8 o9 : Option V} {o : Option V} {r : St} {R : St → Hp → Prop} (h : R (o0 :: o1 :: o2 :: o3 :: o4 :: o5 :: o6 :: o7 :: o8 :: o9 :: some v :: r) H) : gName 10 v (o0 :: o1 :: o2 :: o3 :: o4 :: o5 :: o6 :: o7 :: o8 :: o9 :: o :: r) H R := h
theorem wv11 {o0 o1 o2 o3 o4 o5 o6 o7 o8 o9 o10 : Option V} {r : St} (h : Q v H) : tVar 11 (o0 :: o1 :: o2 :: o3 :: o4 :: o5 :: o6 :: o7 :: o8 :: o9 :: o10 :: some v :: r) H Q := ⟨v, rfl, h⟩
theorem wn11 {o0 o1 o2 o3 o4 o5 o6 o7 o8 o9 o10 : Option V} {o : Option V} {r : St} {R : St → Hp → Prop} (h : R (o0 :: o1 :: o2 :: o3 :: o4 :: o5 :: o6 :: o7 :: o8 :: o9 :: o10 :: some v :: r) H) : gName 11 v (o0 :: o1 :: o2 :: o3 :: o4 :: o5 :: o6 :: o7 :: o8 :: o9 :: o10 :: o :: r) H R := h
theorem wv12 {o0 o1 o2 o3 o4 o5 o6 o7 o8 o9 o10 o11 : Option V} {r : St} (h : Q v H) : tVar 12 (o0 :: o1 :: o2 :: o3 :: o4 :: o5 :: o6 :: o7 :: o8 :: o9 :: o10 :: o11 :: some v :: r) H Q := ⟨v, rfl, h⟩
theorem wn12 {o0 o1 o2 o3 o4 o5 o6 o7 o8 o9 o10 o11 : Option V} {o : Option V} {r : St} {R : St → Hp → Prop} (h : R (o0 :: o1 :: o2 :: o3 :: o4 :: o5 :: o6 :: o7 :: o8 :: o9 :: o10 :: o11 :: some v :: r) H) : gName 12 v (o0 :: o1 :: o2 :: o3 :: o4 :: o5 :: o6 :: o7 :: o8 :: o9 :: o10 :: o11 :: o :: r) H R := h
theorem wv13 {o0 o1 o2 o3 o4 o5 o6 o7 o8 o9 o10 o11 o12 : Option V} {r : St} (h : Q v H) : tVar 13 (o0 :: o1 :: o2 :: o3 :: o4 :: o5 :: o6 :: o7 :: o8 :: o9 :: o10 :: o11 :: o12 :: some v :: r) H Q := ⟨v, rfl, h⟩
theorem wn13 {o0 o1 o2 o3 o4 o5 o6 o7 o8 o9 o10 o11 o12 : Option V} {o : Option V} {r : St} {R : St → Hp → Prop} (h : R (o0 :: o1 :: o2 :: o3 :: o4 :: o5 :: o6 :: o7 :: o8 :: o9 :: o10 :: o11 :: o12 :: some v :: r) H) : gName 13 v (o0 :: o1 :: o2 :: o3 :: o4 :: o5 :: o6 :: o7 :: o8 :: o9 :: o10 :: o11 :: o12 :: o :: r) H R := h
theorem w_c (h : Q v H) : tC v σ H Q := h
theorem w_i0 {f : Int → Int → V} (h : Q (f i j) H) : rI0 f (.int i) (.int j) H Q := ⟨i, j, rfl, rfl, h⟩
theorem w_mod {f : Int → Int → V} (hj : 0 < j) (h : Q (f i j) H) : rI (fun _ j => 0 < j) f (.int i) (.int j) H Q := ⟨i, j, rfl, rfl, hj, h⟩
theorem w_div {f : Int → Int → V} (h0 : 0 < j) (h1 : j < 1073741824) (h : Q (f i j) H) : rI CDiv f (.int i) (.int j) H Q := ⟨i, j, rfl, rfl, ⟨h0, h1⟩, h⟩
theorem w_pow {f : Int → Int → V} (h0 : 0 ≤ j) (h1 : j ≤ 1000000) (h2 : i.natAbs < 2 ^ 64) (h : Q (f i j) H) : rI CPow f (.int i) (.int j) H Q := ⟨i, j, rfl, rfl, ⟨h0, h1, h2⟩, h⟩
theorem w_mulL {f : Int → Int → V} (h0 : -(2 ^ 64) < i) (h1 : i < 2 ^ 64) (h : Q (f i j) H) : rI CMul f (.int i) (.int j) H Q := ⟨i, j, rfl, rfl, .inl ⟨h0, h1⟩, h⟩
theorem w_mulR {f : Int → Int → V} (h0 : -(2 ^ 64) < j) (h1 : j < 2 ^ 64) (h : Q (f i j) H) : rI CMul f (.int i) (.int j) H Q := ⟨i, j, rfl, rfl, .inr ⟨h0, h1⟩, h⟩
theorem w_u {g : Int → V} (h : Q (g i) H) : rU g (.int i) H Q := ⟨i, rfl, h⟩
theorem w_un {r : V → Hp → VK → Prop} (h : ta σ H fun x H1 => r x H1 Q) : tUn r ta σ H Q := h
theorem w_eqi (h : Q (.bl (decide (i = j))) H) : rEq (.int i) (.int j) H Q := ⟨rfl, by rw [show decide (V.int i = V.int j) = decide (i = j) from decide_eq_decide.mpr ⟨fun e => by cases e; rfl, fun e => by rw [e]⟩]; exact h⟩
theorem w_nei (h : Q (.bl (!decide (i = j))) H) : rNe (.int i) (.int j) H Q := ⟨rfl, by rw [show decide (V.int i = V.int j) = decide (i = j) from decide_eq_decide.mpr ⟨fun e => by cases e; rfl, fun e => by rw [e]⟩]; exact h⟩
theorem w_eqb {a b : Bool} (h : Q (.bl (decide (a = b))) H) : rEq (.bl a) (.bl b) H Q := ⟨rfl, by rw [show decide (V.bl a = V.bl b) = decide (a = b) from decide_eq_decide.mpr ⟨fun e => by cases e; rfl, fun e => by rw [e]⟩]; exact h⟩
theorem w_bl {k : Bool} {R : Bool → Prop} (h : R k) : ∃ c, V.bl k = .bl c ∧ R c := ⟨k, rfl, h⟩
theorem w_not {R : Bool → Hp → Prop} (h : c σ H fun b H1 => R (!b) H1) : tNot c σ H R := h
theorem w_and {R : Bool → Hp → Prop} (h : c σ H fun b H1 => if b = true then d σ H1 R else R false H1) : tAnd c d σ H R := h
theorem w_or {R : Bool → Hp → Prop} (h : c σ H fun b H1 => if b = true then R true H1 else d σ H1 R) : tOr c d σ H R := h
theorem w_notV (h : ta σ H fun x H1 => ∃ c, x = .bl c ∧ Q (.bl (!c)) H1) : tNotV ta σ H Q := h
theorem w_andV (h : ta σ H fun x H1 => ∃ c, x = .bl c ∧ if c = true then tb σ H1 Q else Q (.bl false) H1) : tAndV ta tb σ H Q := h
theorem w_ifE (h : c σ H fun b H1 => if b = true then ta σ H1 Q else tb σ H1 Q) : tIf c ta tb σ H Q := h
theorem w_chain {r r' : R2} (h : ta σ H fun x H1 => tb σ H1 fun y H2 => r x y H2 fun z H3 => ∃ k, z = .bl k ∧ if k = true then tc σ H3 fun w H4 => r' y w H4 Q else Q (.bl false) H3) : tChain r r' ta tb tc σ H Q := h
theorem w_rt {nx bk ct : St → Hp → Prop} {rt : VK} (h : rt v H) : (Ends.mk nx rt bk ct).rt v H := h
theorem w_call {sp : Sp} {E : XK} (h : tr σ H fun vs H1 => sp vs H1 Q E) : tCall sp [] E tr σ H Q := by
  have e : (fun vs H1 => sp (vs ++ []) H1 Q E) = fun vs H1 => sp vs H1 Q E := by
    funext vs H1
    rw [List.append_nil]
  show tr σ H fun vs H1 => sp (vs ++ []) H1 Q E
  rw [e]
  exact h
theorem w_bm {T : String} {r : V → List V → Hp → VK → Prop} {to : TE} (h : to σ H fun x H1 => tyV K T x H1 ∧ tr σ H1 fun xs H2 => r x xs H2 Q) : tBM K T r to tr σ H Q := h
theorem w_sub {to ti : TE} {ts : TSet} {R : St → Hp → Prop} (h : to σ H fun o H1 => ti σ H1 fun i H2 => ts o i v H2 fun H3 => R σ H3) : gSub to ti ts v σ H R := h
theorem w_slice {r : V → Option Int → Option Int → Hp → VK → Prop} {tl th : TO} (h : t σ H fun x H1 => tl σ H1 fun l H2 => th σ H2 fun u H3 => r x l u H3 Q) : tSl r t tl th σ H Q := h
theorem w_noPart {R : Option Int → Hp → Prop} (h : R none H) : tNoPart σ H R := h
theorem w_part {R : Option Int → Hp → Prop} (h : t σ H fun x H1 => ∃ i, x = .int i ∧ R (some i) H1) : tPart t σ H R := h
theorem w_int {R : Int → Prop} (h : R i) : ∃ k, V.int i = .int k ∧ R k := ⟨i, rfl, h⟩
theorem w_ixL {p : Addr} {xs : List V} (h : SqL K H p xs) (e : atI xs i = some v) (k : Q v H) : rIxL K (.ref p) (.int i) H Q := ⟨p, xs, i, v, rfl, rfl, h, e, k⟩
theorem w_ixT {p : Addr} {xs : List V} (h : SqT K H p xs) (e : atI xs i = some v) (k : Q v H) : rIxT K (.ref p) (.int i) H Q := ⟨p, xs, i, v, rfl, rfl, h, e, k⟩
def rLen (K : PySem.W.Frag) : List V → Hp → VK → Prop := fun xs H Q => ∃ x n, xs = [x] ∧ LenV K x H n ∧ Q (.int n) H
theorem w_lenL {p : Addr} {xs : List V} (h : SqL K H p xs) (k : Q (.int xs.length) H) : rLen K [.ref p] H Q := ⟨_, xs.length, rfl, .inl ⟨xs, h, rfl⟩, k⟩
theorem w_lenT {p : Addr} {xs : List V} (h : SqT K H p xs) (k : Q (.int xs.length) H) : rLen K [.ref p] H Q := ⟨_, xs.length, rfl, .inr ⟨xs, h, rfl⟩, k⟩
def rMax2 : List V → Hp → VK → Prop := fun xs H Q => ∃ i j, xs = [.int i, .int j] ∧ Q (.int (if j > i then j else i)) H
def rMin2 : List V → Hp → VK → Prop := fun xs H Q => ∃ i j, xs = [.int i, .int j] ∧ Q (.int (if j < i then j else i)) H
theorem w_max (h : Q (.int (max i j)) H) : rMax2 [.int i, .int j] H Q := ⟨i, j, rfl, by
  rw [show (if j > i then j else i) = max i j by rw [Int.max_def]; split <;> split <;> omega]
  exact h⟩
theorem w_min (h : Q (.int (min i j)) H) : rMin2 [.int i, .int j] H Q := ⟨i, j, rfl, by
  rw [show (if j < i then j else i) = min i j by rw [Int.min_def]; split <;> split <;> omega]
  exact h⟩
def rInt1 : List V → Hp → VK → Prop := fun xs H Q => (∃ i, xs = [.int i] ∧ Q (.int i) H) ∨ ∃ k, xs = [.bl k] ∧ Q (.int (if k then 1 else 0)) H
theorem w_intB {k : Bool} (h : Q (.int (if k then 1 else 0)) H) : rInt1 [.bl k] H Q := .inr ⟨k, rfl, h⟩
theorem w_is {x d : V} {tv : Value} {b : Bool} (ty : TyOf K H x tv) (e : clsIs K tv d = some b) (h : Q (.bl b) H) : rIsT K [x, d] H Q := ⟨x, d, tv, b, rfl, ty, e, h⟩
def rIsN : R2 := fun x y H Q => y = .non ∧ Q (.bl (decide (x = .non))) H
def rNotN : R2 := fun x y H Q => y = .non ∧ Q (.bl (!decide (x = .non))) H
end
section
variable {X : Cx}
theorem call_lenN : CallR X (.builtin "len") (rLen X.K) := call_len
theorem call_maxN (hc : X.calm = true) : CallR X (.builtin "max") rMax2 := call_max2 hc
theorem call_minN (hc : X.calm = true) : CallR X (.builtin "min") rMin2 := call_min2 hc
theorem call_intN : CallR X (.type "int") rInt1 := call_int1
theorem op_isNN : OpR X (compareOp .Is) rIsN := op_isN
theorem op_notNN : OpR X (compareOp .IsNot) rNotN := op_notN
end
section
variable {A B p : Prop} [Decidable p] {b : Bool}
theorem i_dec (h1 : p → A) (h2 : ¬ p → B) : if decide p = true then A else B := by
  by_cases h : p
  · rw [if_pos (decide_eq_true h)]; exact h1 h
  · rw [if_neg (by simpa using h)]; exact h2 h
theorem i_b (h1 : b = true → A) (h2 : b = false → B) : if b = true then A else B := by
  cases b with
  | true => exact iteT (h1 rfl)
  | false => exact iteF (h2 rfl)
theorem i_T (h : b = true) (k : A) : if b = true then A else B := by rw [if_pos h]; exact k
theorem i_F (h : b = false) (k : B) : if b = true then A else B := by rw [if_neg (by rw [h]; exact Bool.false_ne_true)]; exact k
theorem i_pos (h : p) (k : A) : if decide p = true then A else B := by rw [if_pos (decide_eq_true h)]; exact k
theorem i_neg (h : ¬ p) (k : B) : if decide p = true then A else B := by rw [if_neg (by simpa using h)]; exact k
theorem i_npos (h : p) (k : B) : if (!decide p) = true then A else B := by rw [if_neg (by simpa using h)]; exact k
end
section
variable {H H0 H1 H2 H' : Hp} {p q a : Addr} {o u : HO} {xs ys : List V}
theorem New.trans (n1 : New H H1 p o) (n2 : New H1 H2 q u) : New H H2 q u := ⟨n1.s.trans n2.s, n2.e, fun a v e => n2.n a v (n1.s a v e)⟩
def TupsAt (H : Hp) (ys : List V) (rows : List (List V)) : Prop := ys.length = rows.length ∧ ∀ (j : Nat) (r : List V), rows[j]? = some r → ∃ q, ys[j]? = some (.ref q) ∧ H q = some (.tup r)
theorem TupsAt.same {rows : List (List V)} (s : Same H H') (h : TupsAt H ys rows) : TupsAt H' ys rows := ⟨h.1, fun j r e => let ⟨q, a, b⟩ := h.2 j r e; ⟨q, a, s _ _ b⟩⟩
theorem TupsAt.nil : TupsAt H [] [] := ⟨rfl, fun j r e => by simp at e⟩
end
section
variable {σ : St} {H : Hp} {Q : VK} {K : PySem.W.Frag} {tr : TA} {D : Ends} {i j : Int} {g : TG} {tb : TS} {a b : V} {p : Addr}
theorem w_tup2 {i0 i1 : Nat} {R : St → Hp → Prop} (hp : SqT K H p [a, b]) (h : gName i0 a σ H fun σ1 H1 => gName i1 b σ1 H1 R) : gTup K 2 (gCons (gName i0) (gCons (gName i1) gNil)) (.ref p) σ H R :=
  ⟨p, _, rfl, hp, rfl, _, _, rfl, _, _, rfl, rfl, h⟩
end
theorem map_cut {N a n : Nat} {F : Nat → V} (h : a + n ≤ N) : cutV ((List.range N).map F) (some (a : Int)) (some ((a : Int) + (n : Int))) = (List.range n).map fun k => F (a + k) := by
  have e1 : HT.sIx ((List.range N).map F).length 0 (some (a : Int)) = a := by
    rw [HT.sIx_nat, List.length_map, List.length_range]
    omega
  have e2 : HT.sIx ((List.range N).map F).length ((List.range N).map F).length (some ((a : Int) + (n : Int))) = a + n := by
    rw [show (a : Int) + (n : Int) = ((a + n : Nat) : Int) by omega, HT.sIx_nat, List.length_map, List.length_range]
    omega
  unfold cutV
  rw [e1, e2]
  apply List.ext_getElem?
  intro k
  rw [List.getElem?_take]
  by_cases hk : k < n
  · rw [if_pos (by omega), List.getElem?_drop]
    have : a + k < N := by omega
    simp [hk, this]
  · rw [if_neg (by omega)]
    have : ((List.range n).map fun k => F (a + k))[k]? = none := by simp; omega
    rw [this]
end L2
namespace L2
open PySem PySem.Spec PyProof.Rows PySem.SeqAt
section
variable {X : Cx} {a : Expr} {ta : TE} {pos : Pos}
def idV : V → Bool
  | .non => true
  | .bl _ => true
  | .int _ => true
  | .str _ => true
  | .ref _ => true
  | _ => false
theorem same_eqAt {A : Around} {s : Shared} {x : V} {u v : Value} (f : idV x = true) (ru : RelV x u) (rv : RelV x v) : EqAt A s u v true := by
  cases x with
  | non => cases ru; cases rv; exact EqAt.same _
  | bl b => cases ru; cases rv; exact EqAt.same _
  | ref b => cases ru; cases rv; exact EqAt.same _
  | int i =>
    obtain ⟨t, rfl⟩ := ru
    obtain ⟨t', rfl⟩ := rv
    have := EqAt.int_int (A := A) (s := s) i t i t'
    rwa [beq_self_eq_true] at this
  | str z =>
    obtain ⟨t, rfl⟩ := ru
    obtain ⟨t', rfl⟩ := rv
    have := EqAt.str_str (A := A) (s := s) z t z t'
    rwa [beq_self_eq_true] at this
  | _ => exact absurd (show false = true from f) Bool.false_ne_true
def rNeI (K : PySem.W.Frag) : R2 := fun x y H Q => ∃ p q xs, x = .ref p ∧ y = .ref q ∧ SqL K H p xs ∧ SqL K H q xs ∧ xs.all idV = true ∧ Q (.bl false) H
theorem op_neI {k : Nat} (hr : Room k X.A) : OpR X (compareOp .NotEq) (rNeI X.K) := by
  intro pins s σ H x y v u Q I rx ry h
  obtain ⟨p, q, xs, rfl, rfl, hp, hq, hf, qq⟩ := h
  cases rx
  cases ry
  obtain ⟨us, ru, pu, _⟩ := I.list hp
  obtain ⟨vs, rv, pw, _⟩ := I.list hq
  have hsz : us.toArray.size = vs.toArray.size := by simp [← ru.length, ← rv.length]
  have b := RcNeAt.lists (A := X.A) (s := s) (e := fun _ => true) pu.isList pw.isList hsz (by have := hr.un; omega) (fun j h1 h2 => by
    have l1 : j < us.length := by simpa using h1
    have l2 : j < vs.length := by simpa using h2
    have l3 : j < xs.length := by rw [ru.length]; exact l1
    have e3 : xs[j]? = some xs[j] := by simp [l3]
    obtain ⟨u, eu, qu⟩ := ru.get e3
    obtain ⟨v, ev, qv⟩ := rv.get e3
    have z1 : us.toArray[j] = u := by
      have : us[j]? = some us[j] := by simp [l1]
      rw [this] at eu
      simpa using eu
    have z2 : vs.toArray[j] = v := by
      have : vs[j]? = some vs[j] := by simp [l2]
      rw [this] at ev
      simpa using ev
    rw [z1, z2]
    exact same_eqAt (List.all_eq_true.mp hf _ (List.getElem_mem l3)) qu qv)
  rw [show ((List.range us.toArray.size).all fun _ => true) = true by simp] at b
  exact b X.prog X.w X.xe _ ⟨.bl _, H, I, rfl, qq⟩
end
theorem go_filter {σ : St} {H : Hp} {wi : TI} {J : It} {xs : List V} {Lk : Hp → Prop} {c : TT} {Q : VK} {fr : List Nat} {fvs : St} {p : V → Bool} (hz : xs.length ≤ 1000000) (hf : (fr.map fun i => (σ[i]?).getD none) = fvs)
    (it : L2.ItemsOf J xs Lk) (hw : ∀ R : It → Hp → Prop, R J H → wi σ H R) (hL : ∀ H', Same H H' → Lk H')
    (turn : ∀ (i : Nat) (v : V) (H' : Hp) (R : Bool → Hp → Prop), xs[i]? = some v → Same H H' → (∀ H2, Same H' H2 → R (p v) H2) → c (some v :: fvs) H' R)
    (k : ∀ l H', New H H' l (.lst (xs.filter p)) → Q (.ref l) H') : tComp wi 1 fr (gName 0) c (tVar 0) σ H Q := by
  refine hw _ fun acc hacc => ?_
  subst hf
  have nacc : ∀ b u, H b = some u → b ≠ acc := fun b u e => ne_of_none e hacc
  refine comp_by it (fun i ys H' => H' acc = some (.lst ys) ∧ Same H H' ∧ ys = (xs.take i).filter p) ⟨upd_same, Same.new hacc, by simp⟩ (fun i ys H' _ h => ⟨hL H' h.2.1, h.1⟩) ?_ ?_
  · rintro i x tv ys H' hx hi ⟨ha, hs, rfl⟩ htv
    obtain ⟨tv0, rfl⟩ : ∃ a, tv = [a] := List.length_eq_one_iff.mp htv
    have tk : xs.take (i + 1) = xs.take i ++ [x] := by
      rw [List.take_succ, hx]
      rfl
    unfold gName
    refine turn i x H' _ hx hs fun H2 s2 => ?_
    cases hp : p x with
    | true =>
      refine iteT ⟨x, rfl, ?_, s2 _ _ ha, CompW.next (tv := [some x]) hi ⟨upd_same, fun b u e => ?_, ?_⟩ rfl⟩
      · refine Nat.lt_of_le_of_lt (List.length_filter_le _ _) (Nat.lt_of_lt_of_le ?_ (small_line hz))
        rw [List.length_take]
        omega
      · rw [upd_ne (nacc b u e)]
        exact s2 _ _ (hs _ _ e)
      · rw [tk, List.filter_append]
        simp [hp]
    | false =>
      refine iteF (CompW.next (tv := [some x]) hi ⟨s2 _ _ ha, hs.trans s2, ?_⟩ rfl)
      rw [tk, List.filter_append]
      simp [hp]
  · rintro ys H' ⟨ha, hs, rfl⟩
    rw [List.take_length] at ha
    exact k acc H' ⟨hs, ha, nacc⟩
section
variable {σ : St} {H : Hp} {Q : VK} {D : Ends} {td ty tv : TE} {p : Addr} {kvs : List (Key × V)} {i : Int} {v : V}
theorem w_dnew (h : ∀ p H', New H H' p (.dK []) → Q (.ref p) H') : tDNewK σ H Q := fun p hp => h p _ (.mk' hp)
theorem w_din (h : ty σ H fun y H1 => td σ H1 fun x H2 => ∃ a o, x = .ref a ∧ DGet H2 a y o ∧ Q (.bl o.isSome) H2) : tDIn ty td σ H Q := h
theorem w_dini {R : Option V → Prop} (hd : H p = some (.dK kvs)) (h : R (valV kvs (Sum.inl i))) : ∃ a o, V.ref p = .ref a ∧ DGet H a (.int i) o ∧ R o := ⟨p, _, rfl, DGet.k (k := Sum.inl i) hd, h⟩
theorem w_dput (h : tv σ H fun v H1 => td σ H1 fun x H2 => ty σ H2 fun y H3 => ∃ a H4, x = .ref a ∧ DPut H3 a y v H4 ∧ D.nx σ H4) : sDPut td ty tv D σ H := h
theorem w_dputi {R : Hp → Prop} (hd : H p = some (.dK kvs)) (hz : kvs.length < sizeLine) (h : ∀ H', Off p H H' → H' p = some (.dK (putK kvs (Sum.inl i) v)) → R H') : ∃ a H4, V.ref p = .ref a ∧ DPut H a (.int i) v H4 ∧ R H4 :=
  ⟨p, _, rfl, DPut.k (k := Sum.inl i) hd hz, h _ Off.upd upd_same⟩
end
def Kp (b : Addr) (H H' : Hp) : Prop := ∀ x u, x ≠ b → H x = some u → H' x = some u
section
variable {b p : Addr} {H H1 H2 : Hp} {o : HO}
theorem Kp.trans (a : Kp b H H1) (c : Kp b H1 H2) : Kp b H H2 := fun x u n h => c x u n (a x u n h)
theorem Same.kp (s : Same H H1) : Kp b H H1 := fun x u _ h => s x u h
theorem Off.kp (f : Off b H H1) : Kp b H H1 := fun x u n h => by rw [f x n]; exact h
end
section
variable {X : Cx} {K : PySem.W.Frag}
theorem ix_listK (h : X.K = K) : IxR X (rIxL K) := h ▸ ix_list
theorem ix_tupK (h : X.K = K) : IxR X (rIxT K) := h ▸ ix_tup
end
def ForL (K : PySem.W.Frag) (a : Addr) (g : TG) (tb : TS) (D : Ends) (σ : St) (H : Hp) : Prop := ∃ W : Nat → Nat → St → Hp → Prop, (∃ m, W 0 m σ H) ∧ ∀ i m σ H, W i m σ H →
  ((Itl K a).stop i H ∧ D.nx σ H) ∨ ((Itl K a).go i H ∧ ∃ N : St → Hp → Prop, (∀ σ' H', N σ' H' → ∃ m', m' < m ∧ W (i + 1) m' σ' H') ∧ ∀ x H', (Itl K a).yld i H x H' → g x σ H' fun σ2 H2 => tb { D with nx := N, ct := N, bk := D.nx } σ2 H2)
theorem w_forL {K : PySem.W.Frag} {te : TE} {g : TG} {tb : TS} {D : Ends} {σ : St} {H : Hp} (h : te σ H fun x H1 => ∃ a, x = .ref a ∧ (∃ xs, SqL K H1 a xs) ∧ ForL K a g tb D σ H1) : tFor (iList K te) g tb D σ H := h
theorem forL_by {K : PySem.W.Frag} {a : Addr} {xs : List V} {g : TG} {tb : TS} {D : Ends} {σ : St} {H : Hp} (Pv : Nat → St → Hp → Prop) (h0 : Pv 0 σ H) (hl : ∀ i σ H, i ≤ xs.length → Pv i σ H → SqL K H a xs)
    (hs : ∀ i x σ H, xs[i]? = some x → Pv i σ H → g x σ H fun σ2 H2 => tb { D with nx := Pv (i + 1), ct := Pv (i + 1), bk := D.nx } σ2 H2) (hd : ∀ σ H, Pv xs.length σ H → D.nx σ H) : ForL K a g tb D σ H := for_list Pv h0 hl hs hd
def CompAll (J : It) (nt : Nat) (fr : List Nat) (g : TG) (c : TT) (te : TE) (σ : St) (H1 : Hp) (Q : VK) : Prop := ∀ acc, H1 acc = none → CompGoal J nt fr g c te σ H1 Q acc
section
variable {X : Cx} {pins : List (Addr × Obj)} {EX : St → XK} {k m : Nat} {x : Str} {ps : List Str} {sp : Sp} {p pos apos : Pos} {e o : Expr} {es : List Expr} {t : TA} {ta : TE} {f C : Addr} {fd : FuncData} {nm : Str}
structure CMeth (K : PySem.W.Frag) (C : Addr) (m : Str) (f : Addr) : Prop where
  ga : PySem.W.specialIn K (.ref C) "__getattribute__" = some (some (.builtin "type.__getattribute__"))
  rd : PySem.W.readsIn K C (.type "type") = true
  at_ : PySem.W.findCls K (.ref C) (.type "type") m = some (.val (.ref f))
  hi : PySem.W.handedIn (.ref f) = true
  kp : PySem.W.keepIn K (.ref f) = true
end
section
variable {P : Program} {w : World} {K : PySem.W.Frag} {mg : Str → Option Value} {base : Heap} {CX : CXT} {k : Nat} {x nm qual : Str} {ps : List Str} {sp : Sp} {C : Addr}
structure Met (P : Program) (w : World) (K : PySem.W.Frag) (mg : Str → Option Value) (base : Heap) (CX : CXT) (k : Nat) (C : Addr) (nm : Str) (ps : List Str) (sp : Sp) : Prop where
  ex : ∃ (f : Addr) (fd : FuncData), FnOk P w K mg base CX k f fd ps sp ∧ Meth K C nm f ∧ Binds K fd ps []
def FnAt (K : PySem.W.Frag) (nm qual : Str) (st : Stmt) (f : Addr) : Prop := ∃ fd : FuncData, Fun K nm qual st f fd
structure FnTells (P : Program) (w : World) (K : PySem.W.Frag) (mg : Str → Option Value) (base : Heap) (CX : CXT) (k : Nat) (f : Addr) (ps : List Str) (sp : Sp) : Prop where
  ex : ∃ fd : FuncData, FnOk P w K mg base CX k f fd ps sp ∧ Binds K fd ps []
theorem FnTells.met {f : Addr} (t : FnTells P w K mg base CX k f ps sp) (m : Meth K C nm f) : Met P w K mg base CX k C nm ps sp := let ⟨fd, F, b⟩ := t.ex; ⟨f, fd, F, m, b⟩
variable {st : Stmt} {N : List Str} {f : Addr}
end
end L2
namespace L2
open PySem PySem.Spec PyProof.Rows
def Bd (k : Nat) (x : Int) : Prop := 0 ≤ x ∧ x < 2 ^ k
theorem p2_pos (k : Nat) : (0 : Int) < 2 ^ k := by
  have : (0 : Nat) < 2 ^ k := Nat.pow_pos (by decide)
  exact_mod_cast this
theorem Bd.mul {a b : Nat} {x y : Int} (hx : Bd a x) (hy : Bd b y) : Bd (a + b) (x * y) := by
  refine ⟨Int.mul_nonneg hx.1 hy.1, ?_⟩
  rw [Int.pow_add]
  exact Int.lt_of_le_of_lt (Int.mul_le_mul_of_nonneg_left (Int.le_of_lt hy.2) hx.1) (Int.mul_lt_mul_of_pos_right hx.2 (p2_pos b))
theorem Bd.abs {k : Nat} {x : Int} (h : Bd k x) : x.natAbs < 2 ^ k := by
  have h1 := h.1
  have h2 := h.2
  have e : ((x.natAbs : Nat) : Int) < ((2 ^ k : Nat) : Int) := by
    rw [Int.natAbs_of_nonneg h1]
    exact_mod_cast h2
  exact_mod_cast e
theorem go_compR {σ : St} {H : Hp} {te : TE} {tr : TA} {Q : VK} {fr : List Nat} {fvs : St} {n : Nat} (Iv : Addr → Nat → List V → Hp → Prop) (hr : TelA tr σ H [.int (n : Int)]) (hz : n ≤ 1000000) (hf : (fr.map fun i => (σ[i]?).getD none) = fvs)
    (h0 : ∀ acc H', New H H' acc (.lst []) → Iv acc 0 [] H') (ha : ∀ acc i ys H', Iv acc i ys H' → H' acc = some (.lst ys) ∧ ys.length = i)
    (turn : ∀ acc i ys H' (R : VK), i < n → Iv acc i ys H' → (∀ y H2, H2 acc = some (.lst ys) → (∀ H3, Off acc H2 H3 → H3 acc = some (.lst (ys ++ [y])) → Iv acc (i + 1) (ys ++ [y]) H3) → R y H2) → te (some (.int i) :: fvs) H' R)
    (k : ∀ acc ys H', Iv acc n ys H' → Q (.ref acc) H') : tComp (iRng1 tr) 1 fr (gName 0) tTrue te σ H Q := by
  refine hr _ ⟨n, rfl, by omega, by omega, fun acc hacc => ?_⟩
  subst hf
  rw [Int.toNat_natCast]
  refine comp_by items_range (fun i ys H' => Iv acc i ys H') (h0 acc _ (.mk' hacc)) (fun i ys H' _ h => ⟨trivial, (ha acc i ys H' h).1⟩) ?_ ?_
  · rintro i x tv ys H' hx hi h htv
    obtain ⟨tv0, rfl⟩ : ∃ a, tv = [a] := List.length_eq_one_iff.mp htv
    have hi' : i < n := by simpa [rangeV] using hi
    obtain rfl := rangeV_get hx hi'
    unfold gName tTrue
    dsimp only
    rw [if_pos rfl]
    refine turn acc i ys H' _ hi' h fun y H2 h1 h2 => ⟨?_, h1, CompW.next (tv := [some (V.int i)]) hi (h2 _ Off.upd upd_same) rfl⟩
    rw [(ha acc i ys H' h).2]
    exact Nat.lt_of_lt_of_le hi' (small_line hz)
  · rintro ys H' h
    rw [show (rangeV 0 n).length = n by simp [rangeV]] at h
    exact k acc ys H' h
abbrev numS (i : Int) : Str := Str.ofString (toString i)
def rAddS : R2 := fun x y H Q => ∃ i j, x = .str i ∧ y = .str j ∧ i.length + j.length ≤ sizeLine ∧ Q (.str (i ++ j)) H
def rStrI : List V → Hp → VK → Prop := fun xs H Q => ∃ i, xs = [.int i] ∧ i.natAbs.log2 < 1920 ∧ Q (.str (numS i)) H
def rJoin (K : PySem.W.Frag) : V → List V → Hp → VK → Prop := fun x xs H Q => ∃ sep p ts, x = .str sep ∧ xs = [.ref p] ∧ SqL K H p (ts.map V.str) ∧ sep.length ≤ 16 ∧ (ts.map (fun t => t.length)).sum + ts.length ≤ 1048576 ∧ Q (.str (sep.join ts)) H
theorem strsAre_of : ∀ {ts : List Str} {us : List Value}, Vals (ts.map V.str) us → StrsAre us ts
  | [], _, .nil => .nil
  | t :: ts, _, .cons r h => by
    obtain ⟨k, rfl⟩ := r
    exact .cons t k (strsAre_of h)
section
variable {X : Cx} {pos : Pos}
theorem op_addS : OpR X (binaryOp .Add) rAddS := op_add_str
theorem call_strI : CallR X (.type "str") rStrI := call_str_int
theorem mt_join : MtR X "str.join" (rJoin X.K) := by
  intro pins s σ H x xs v us Q I rx rs h
  obtain ⟨sep, p, ts, rfl, rfl, hq, h1, h2, q⟩ := h
  obtain ⟨t, rfl⟩ := rx
  obtain ⟨u, rfl, r1⟩ := vals1 rs
  cases r1
  obtain ⟨its, r, pl, hz⟩ := I.list hq
  refine join_listW (items := its.toArray) (ys := ts) pl.isList (strsAre_of r) h1 h2 fun t' k => ⟨.str (sep.join ts), H, I.tok _, ⟨t', ?_⟩, q⟩
  show Value.str (Builtin.Str.glued sep ts) t' = _
  rw [StrLaws.glued_eq_join]
theorem pe_join {o e : Expr} {to te : TE} {apos cpos : Pos} (ho : PE X o to) (he : PE X e te) (hbase : attributeBase o "join" X.env (eval o X.env) = eval o X.env := by rfl)
    (hfew : ((backTo cpos (starEach [e] X.env)).all (fun x => !x.1) && (backToKw cpos (keywordEach [] X.env)).all (fun x => x.1.isSome)
      && decide (([e] : List Expr).length + ([] : List Keyword).length + (if ([] : List Keyword).isEmpty then 0 else 1) < 30)) = true := by rfl)
    (hline : (apos.endLine == cpos.line) = true := by rfl) (hs : starEach [e] X.env = (false, eval e X.env) :: starEach [] X.env := by rfl) :
    PE X (.Call (.Attribute o "join" apos) [e] [] cpos) (tBM X.K "str" (rJoin X.K) to (tCons te tNil)) :=
  pe_bm PySem.F.plainAttrs_str PySem.F.slot_str_join PySem.F.type_str_join mt_join ho (pa_cons he pa_nil hs) hbase hfew hline hs (by rfl)
end
section
variable {σ : St} {H : Hp} {Q : VK} {i j out y : Str} {n : Int} {t : TE} {ts : List TE} {K : PySem.W.Frag}
theorem log_small {n : Int} (h : Bd 1000 n) : n.natAbs.log2 < 1920 := by
  by_cases e : n.natAbs = 0
  · rw [e]; decide
  · have := (Nat.log2_lt e).mpr h.abs
    omega
end
def flatDt : V → Dt
  | .int i => .int i
  | .str x => .str x
  | .bl b => .bl b
  | _ => .non
def isFlat : V → Bool
  | .int _ => true
  | .str _ => true
  | .bl _ => true
  | .non => true
  | _ => false
def rExtA : V → List V → Hp → VK → Prop := fun x vs H Q => ∃ l b xs zs, x = .ref l ∧ vs = [.ref b] ∧ H l = some (.lst xs) ∧ H b = some (.lst zs) ∧ xs.length + zs.length ≤ sizeLine ∧ ∀ H', Off l H H' → H' l = some (.lst (xs ++ zs)) → Q .non H'
section
variable {X : Cx}
theorem mt_extA : MtM X "list.extend" rExtA := by
  intro pins s σ H x vs v us Q I rx rv h
  obtain ⟨l, b, xs, zs, e1, e2, hH, hB, hz, q⟩ := h
  exact mt_extend pins s σ H x vs v us Q I rx rv ⟨l, b, xs, zs, e1, e2, hH, hB, hz, q _ Off.upd upd_same⟩
theorem pe_extA {o e : Expr} {to te : TE} {apos cpos : Pos} (ho : PE X o to) (he : PE X e te) (hbase : attributeBase o "extend" X.env (eval o X.env) = eval o X.env := by rfl)
    (hfew : ((backTo cpos (starEach [e] X.env)).all (fun x => !x.1) && (backToKw cpos (keywordEach [] X.env)).all (fun x => x.1.isSome)
      && decide (([e] : List Expr).length + ([] : List Keyword).length + (if ([] : List Keyword).isEmpty then 0 else 1) < 30)) = true := by rfl)
    (hline : (apos.endLine == cpos.line) = true := by rfl) (hs : starEach [e] X.env = (false, eval e X.env) :: starEach [] X.env := by rfl) :
    PE X (.Call (.Attribute o "extend" apos) [e] [] cpos) (tBM X.K "list" rExtA to (tCons te tNil)) :=
  pe_bm PySem.F.plainAttrs_list PySem.F.slot_list_extend PySem.F.type_list_extend mt_extA ho (pa_cons he pa_nil hs) hbase hfew hline hs (by rfl)
end
end L2
namespace L2
open PySem PySem.Spec PyProof.Rows PySem.SeqAt
section
variable {H H' : Hp} {p a l : Addr} {o u : HO}
theorem New.at (n : New H H' p o) (h : H a = some u) : H' a = some u := n.s a u h
theorem Same.at (s : Same H H') (h : H a = some u) : H' a = some u := s a u h
theorem Off.at (f : Off l H H') (ne : a ≠ l) (h : H a = some u) : H' a = some u := by rw [f a ne]; exact h
theorem Kp.at (k : Kp l H H') (ne : a ≠ l) (h : H a = some u) : H' a = some u := k a u ne h
end
theorem cx_K {CX : CXT} {P : Program} {w : World} {K : PySem.W.Frag} {mg : Str → Option Value} {base : Heap} {N : List Str} {q : Str} {sc : Scope} {f : Addr} {cdv : Value} {A : Around} {outer : List Env} {s : Shared} {H : Hp} {E : XK} : (cxOf CX P w K mg base N q sc f cdv A outer s H E).nox.K = K := rfl
theorem cx_K2 {CX : CXT} {P : Program} {w : World} {K : PySem.W.Frag} {mg : Str → Option Value} {base : Heap} {N : List Str} {q : Str} {sc : Scope} {f : Addr} {cdv : Value} {A : Around} {outer : List Env} {s : Shared} {H : Hp} {E : XK} : (cxOf CX P w K mg base N q sc f cdv A outer s H E).K = K := rfl
def Hs (H : Hp) (a : Addr) : Prop := ∃ u, H a = some u
section
variable {H H' : Hp} {a p l : Addr} {o u : HO}
theorem Hs.of (h : H a = some u) : Hs H a := ⟨u, h⟩
theorem New.hs (n : New H H' p o) : Hs H' p := ⟨o, n.e⟩
end
section
variable {H : Hp} {Q : VK} {K : PySem.W.Frag} {l b : Addr} {xs ys : List V} {y : V} {σ : St} {D : Ends}
theorem w_tyL {R : Prop} (h : SqL K H l xs) (k : R) : tyV K "list" (.ref l) H ∧ R := ⟨.inl ⟨rfl, _, h⟩, k⟩
theorem w_app (h : H l = some (.lst xs)) (z : xs.length < sizeLine) (k : ∀ H', Off l H H' → H' l = some (.lst (xs ++ [y])) → Q .non H') : rAppA (.ref l) [y] H Q := ⟨l, xs, y, rfl, rfl, h, z, k⟩
theorem w_ext (h : H l = some (.lst xs)) (e : H b = some (.lst ys)) (z : xs.length + ys.length ≤ sizeLine) (k : ∀ H', Off l H H' → H' l = some (.lst (xs ++ ys)) → Q .non H') : rExtA (.ref l) [.ref b] H Q := ⟨l, b, xs, ys, rfl, rfl, h, e, z, k⟩
theorem w_setA {i : Int} {j : Nat} {v : V} {R : Hp → Prop} (h : H l = some (.lst xs)) (e : ixN xs.length i = some j) (k : ∀ H', Off l H H' → H' l = some (.lst (xs.set j v)) → R H') : rSetA (.ref l) (.int i) v H R := ⟨l, xs, i, j, rfl, rfl, h, e, k⟩
theorem w_slA {lo hi : Option Int} (h : SqL K H l xs) (k : ∀ p H', New H H' p (.lst (cutV xs lo hi)) → Q (.ref p) H') : rSlA K (.ref l) lo hi H Q := ⟨l, xs, rfl, h, k⟩
theorem w_catA (h : H l = some (.lst xs)) (e : H b = some (.lst ys)) (z : xs.length + ys.length ≤ sizeLine) (k : ∀ p H', New H H' p (.lst (xs ++ ys)) → Q (.ref p) H') : rCatA (.ref l) (.ref b) H Q := ⟨l, b, xs, ys, rfl, rfl, h, e, z, k⟩
theorem w_lofL (h : SqL K H l xs) (k : ∀ p H', New H H' p (.lst xs) → Q (.ref p) H') : rLOfA K [.ref l] H Q := ⟨l, xs, rfl, .inl h, k⟩
theorem i_idx {n : Nat} {i : Int} (h0 : 0 ≤ i) (h1 : i < n) : ixN n i = some i.toNat := by unfold ixN; rw [if_pos h0, if_pos h1]
theorem atL1 {x y : V} {r : List V} : atI (x :: y :: r) 1 = some y := atI_nat (j := 1) rfl
theorem atL2 {x y z : V} {r : List V} : atI (x :: y :: z :: r) 2 = some z := atI_nat (j := 2) rfl
theorem atL3 {x y z w : V} {r : List V} : atI (x :: y :: z :: w :: r) 3 = some w := atI_nat (j := 3) rfl
theorem i_tt {A B : Prop} (k : A) : if (true : Bool) = true then A else B := by rw [if_pos rfl]; exact k
theorem i_ff {A B : Prop} (k : B) : if (false : Bool) = true then A else B := by rw [if_neg (by decide)]; exact k
theorem i_ntt {A B : Prop} (k : B) : if (!true : Bool) = true then A else B := by rw [if_neg (by decide)]; exact k
theorem i_nff {A B : Prop} (k : A) : if (!false : Bool) = true then A else B := by rw [if_pos (by decide)]; exact k
theorem w_isTT (h : H l = some (.tup xs)) (k : Q (.bl true) H) : rIsT K [.ref l, .ty "tuple"] H Q := w_is (.tup h) (bt_tuple (.tup h)) k
theorem w_isLL (h : H l = some (.lst xs)) (k : Q (.bl true) H) : rIsT K [.ref l, .ty "list"] H Q := w_is (.lst h) (bt_list (.lst h)) k
theorem w_isTL (h : H l = some (.tup xs)) (k : Q (.bl false) H) : rIsT K [.ref l, .ty "list"] H Q := w_is (.tup h) (bt_list (.tup h)) k
theorem small_lt {n : Nat} (h : n < 1000000) : n < sizeLine := Nat.lt_of_lt_of_le h (small_line (Nat.le_refl _))
theorem w_tupB {n i0 i1 : Nat} {a b : V} {R : St → Hp → Prop} (hn : n = 2) (hp : SqT K H l [a, b]) (h : gName i0 a σ H fun σ1 H1 => gName i1 b σ1 H1 R) : gTup K n (gCons (gName i0) (gCons (gName i1) gNil)) (.ref l) σ H R := by
  subst hn
  exact w_tup2 hp h
theorem w_ixM {i : Int} (h : SqL K H l xs) (h0 : 0 ≤ i) (h1 : i < xs.length) (k : ∀ v ∈ xs, Q v H) : rIxL K (.ref l) (.int i) H Q := let ⟨v, e, m⟩ := atI_lt h0 h1; w_ixL h e (k v m)
theorem tups_at {rows : List (List V)} {i : Nat} {v : V} (h : TupsAt H xs rows) (e : xs[i]? = some v) : ∃ r q, rows[i]? = some r ∧ v = .ref q ∧ H q = some (.tup r) := by
  have hi : i < rows.length := by rw [← h.1]; exact (List.getElem?_eq_some_iff.mp e).1
  obtain ⟨q, e1, e2⟩ := h.2 i rows[i] (by simp)
  rw [e] at e1
  exact ⟨rows[i], q, by simp, Option.some.inj e1, e2⟩
end
section
variable {K : PySem.W.Frag} {g : TG} {tb : TS} {D : Ends} {σ : St} {H : Hp} {tr : TA}
def ForR (lo : Int) (n : Nat) (g : TG) (tb : TS) (D : Ends) (σ : St) (H : Hp) : Prop := ∃ W : Nat → Nat → St → Hp → Prop, (∃ m, W 0 m σ H) ∧ ∀ i m σ H, W i m σ H →
  ((Itr lo n).stop i H ∧ D.nx σ H) ∨ ((Itr lo n).go i H ∧ ∃ N : St → Hp → Prop, (∀ σ' H', N σ' H' → ∃ m', m' < m ∧ W (i + 1) m' σ' H') ∧ ∀ x H', (Itr lo n).yld i H x H' → g x σ H' fun σ2 H2 => tb { D with nx := N, ct := N, bk := D.nx } σ2 H2)
theorem w_forR1 (h : tr σ H fun vs H1 => ∃ j : Int, vs = [.int j] ∧ -(2 ^ 62) ≤ j ∧ j < 2 ^ 62 ∧ ForR 0 j.toNat g tb D σ H1) : tFor (iRng1 tr) g tb D σ H := h
theorem l_by {a : Addr} {xs : List V} (h : SqL K H a xs) (k : ForL K a g tb D σ H) : ∃ a', V.ref a = .ref a' ∧ (∃ xs, SqL K H a' xs) ∧ ForL K a' g tb D σ H := ⟨a, rfl, ⟨xs, h⟩, k⟩
end
def inB : V → Int → Int → Bool
  | .int i, lo, hi => decide (lo ≤ i) && decide (i ≤ hi)
  | _, _, _ => false
section
variable {K : PySem.W.Frag} {H : Hp} {Q : VK} {E : XK} {x : V} {n : String} {p q : Addr} {a b c lo hi : Int}
def sp_whole (K : PySem.W.Frag) : Sp := fun vs H Q _ => ∃ x n, vs = [x] ∧ TyOf K H x (.type n) ∧ Q (.bl (isW x)) H
theorem u_whole (ty : TyOf K H x (.type n)) (k : Q (.bl (isW x)) H) : sp_whole K [x] H Q E := ⟨x, n, rfl, ty, k⟩
def sp_is_within (K : PySem.W.Frag) : Sp := fun vs H Q _ => ∃ x n lo hi, vs = [x, .int lo, .int hi] ∧ TyOf K H x (.type n) ∧ Q (.bl (inB x lo hi)) H
theorem u_within (ty : TyOf K H x (.type n)) (k : Q (.bl (inB x lo hi)) H) : sp_is_within K [x, .int lo, .int hi] H Q E := ⟨x, n, lo, hi, rfl, ty, k⟩
def rowsN (ws : List (Nat × Nat)) : List (List V) := ws.map fun w => [V.int (w.1 : Nat), V.int (w.2 : Nat)]
theorem rowsN_len (ws : List (Nat × Nat)) : (rowsN ws).length = ws.length := List.length_map ..
def sp_cellA (K : PySem.W.Frag) : Sp := fun vs H Q _ => ∃ (a : Addr) (ns : List Int) (k : Int), vs = [.ref a, .int k] ∧ SqL K H a (ns.map V.int) ∧ 0 ≤ k ∧ ∀ c : Int, Q (.int c) H
theorem u_cellA {ns : List Int} {m : Int} (h : SqL K H p (ns.map V.int)) (h0 : 0 ≤ m) (k : ∀ c : Int, Q (.int c) H) : sp_cellA K [.ref p, .int m] H Q E := ⟨p, ns, m, rfl, h, h0, k⟩
def sp_boxA : Sp := fun vs H Q _ => ∃ c : Int, vs = [.int c] ∧ ∀ (p : Addr) (a b : Int) (H' : Hp), New H H' p (.lst [.int a, .int b, .int 0]) → Q (.ref p) H'
theorem u_boxA (k : ∀ (p : Addr) (x y : Int) (H' : Hp), New H H' p (.lst [.int x, .int y, .int 0]) → Q (.ref p) H') : sp_boxA [.int a] H Q E := ⟨a, rfl, k⟩
end
section
variable {K : PySem.W.Frag} {g : TG} {tb : TS} {D : Ends} {σ : St} {H H' : Hp} {Q : VK} {l p q : Addr} {xs ys : List V} {rows : List (List V)}
theorem forR0_by {n : Nat} (Pv : Nat → St → Hp → Prop) (h0 : Pv 0 σ H) (hs : ∀ i σ H, i < n → Pv i σ H → g (.int i) σ H fun σ2 H2 => tb { D with nx := Pv (i + 1), ct := Pv (i + 1), bk := D.nx } σ2 H2) (hd : ∀ σ H, Pv n σ H → D.nx σ H) : ForR 0 n g tb D σ H :=
  for_range Pv h0 (fun i σ H hi h => by rw [Int.zero_add]; exact hs i σ H hi h) hd
theorem TupsAt.snoc {r : List V} (h : TupsAt H ys rows) (hq : H q = some (.tup r)) : TupsAt H (ys ++ [.ref q]) (rows ++ [r]) := by
  refine ⟨by rw [List.length_append, List.length_append, h.1]; rfl, fun j s z => ?_⟩
  by_cases hj : j < rows.length
  · rw [List.getElem?_append_left hj] at z
    obtain ⟨x, e1, e2⟩ := h.2 j s z
    exact ⟨x, by rw [List.getElem?_append_left (by rw [h.1]; exact hj)]; exact e1, e2⟩
  · have hj2 : j = rows.length := by
      have := (List.getElem?_eq_some_iff.mp z).1
      rw [List.length_append, List.length_singleton] at this
      omega
    subst hj2
    rw [List.getElem?_append_right (Nat.le_refl _), Nat.sub_self] at z
    cases z
    exact ⟨q, by rw [← h.1, List.getElem?_append_right (Nat.le_refl _), Nat.sub_self]; rfl, hq⟩
end
def isTup : HO → Bool
  | .tup _ => true
  | .frz _ _ => true
  | _ => false
def Tst (H H' : Hp) : Prop := ∀ q u, isTup u = true → H q = some u → H' q = some u
inductive Im where
  | tup (q : Addr) (r : List V)
  | tps (ys : List V) (rs : List (List V))
  | fct (φ : Hp → Prop) (st : ∀ H H', Tst H H' → φ H → φ H')
def Im.holds (H : Hp) : Im → Prop
  | .tup q r => H q = some (.tup r)
  | .tps ys rs => TupsAt H ys rs
  | .fct φ _ => φ H
theorem Im.stay {H H' : Hp} (t : Tst H H') : ∀ {f : Im}, f.holds H → f.holds H'
  | .tup q r, h => t q _ rfl h
  | .tps ys rs, h => ⟨h.1, fun j r e => let ⟨q, a, b⟩ := h.2 j r e; ⟨q, a, t q _ rfl b⟩⟩
  | .fct φ st, h => st H H' t h
class SH (H0 : outParam Hp) (M : outParam (List Addr)) (H : Hp) (L : outParam (List (Addr × HO))) (I : outParam (List Im)) : Prop where
  fr : ∀ b u, b ∉ M → H0 b = some u → H b = some u
  im : ∀ f ∈ I, f.holds H
  at' : ∀ c ∈ L, H c.1 = some c.2
  nd : (L.map (·.1)).Nodup
  mu : ∀ c ∈ L, isTup c.2 = false
  ch : ∀ c ∈ L, c.1 ∈ M ∨ ∀ b u, H0 b = some u → b ≠ c.1
inductive Up (l : Addr) (o' : HO) : List (Addr × HO) → List (Addr × HO) → Prop
  | head {o : HO} {L : List (Addr × HO)} : Up l o' ((l, o) :: L) ((l, o') :: L)
  | tail {c : Addr × HO} {L L' : List (Addr × HO)} (h : Up l o' L L') : Up l o' (c :: L) (c :: L')
theorem Up.keys {l : Addr} {o' : HO} {L L' : List (Addr × HO)} (h : Up l o' L L') : L'.map (·.1) = L.map (·.1) := by
  induction h with
  | head => rfl
  | tail h ih => rw [List.map_cons, List.map_cons, ih]
theorem Up.mem {l : Addr} {o' : HO} {L L' : List (Addr × HO)} (h : Up l o' L L') : l ∈ L.map (·.1) := by
  induction h with
  | head => exact List.mem_cons_self
  | tail h ih => exact List.mem_cons_of_mem _ ih
theorem Up.each {l : Addr} {o' : HO} {L L' : List (Addr × HO)} (h : Up l o' L L') (nd : (L.map (·.1)).Nodup) : ∀ c ∈ L', c = (l, o') ∨ (c ∈ L ∧ c.1 ≠ l) := by
  induction h with
  | @head o L =>
    intro c hc
    rcases List.mem_cons.mp hc with rfl | hc
    · exact .inl rfl
    · refine .inr ⟨List.mem_cons_of_mem _ hc, fun z => ?_⟩
      rw [List.map_cons] at nd
      exact (List.nodup_cons.mp nd).1 (by show l ∈ _; rw [← z]; exact List.mem_map_of_mem (f := (·.1)) hc)
  | @tail d L L' h ih =>
    intro c hc
    rw [List.map_cons] at nd
    have nd' := List.nodup_cons.mp nd
    rcases List.mem_cons.mp hc with rfl | hc
    · exact .inr ⟨List.mem_cons_self, fun z => nd'.1 (z ▸ h.mem)⟩
    · rcases ih nd'.2 c hc with e | ⟨e1, e2⟩
      · exact .inl e
      · exact .inr ⟨List.mem_cons_of_mem _ e1, e2⟩
theorem Up.src {l : Addr} {o' : HO} {L L' : List (Addr × HO)} (h : Up l o' L L') : ∃ o, (l, o) ∈ L := by
  induction h with
  | head => exact ⟨_, List.mem_cons_self⟩
  | tail h ih => obtain ⟨o, ho⟩ := ih; exact ⟨o, List.mem_cons_of_mem _ ho⟩
inductive Pk (c : Addr × HO) : List (Addr × HO) → List (Addr × HO) → Prop
  | head {L : List (Addr × HO)} : Pk c (c :: L) L
  | tail {d : Addr × HO} {L R : List (Addr × HO)} (h : Pk c L R) : Pk c (d :: L) (d :: R)
inductive Sb : List (Addr × HO) → List (Addr × HO) → Prop
  | nil {L : List (Addr × HO)} : Sb [] L
  | cons {c : Addr × HO} {L' L R : List (Addr × HO)} (h : Pk c L R) (t : Sb L' R) : Sb (c :: L') L
theorem Pk.mem {c : Addr × HO} {L R : List (Addr × HO)} (h : Pk c L R) : c ∈ L ∧ ∀ d ∈ R, d ∈ L := by
  induction h with
  | head => exact ⟨List.mem_cons_self, fun d hd => List.mem_cons_of_mem _ hd⟩
  | tail h ih =>
    refine ⟨List.mem_cons_of_mem _ ih.1, fun d hd => ?_⟩
    rcases List.mem_cons.mp hd with rfl | hd
    · exact List.mem_cons_self
    · exact List.mem_cons_of_mem _ (ih.2 d hd)
theorem Pk.nd {c : Addr × HO} {L R : List (Addr × HO)} (h : Pk c L R) (nd : (L.map (·.1)).Nodup) : (R.map (·.1)).Nodup ∧ ∀ d ∈ R, d.1 ≠ c.1 := by
  induction h with
  | head =>
    rw [List.map_cons] at nd
    have := List.nodup_cons.mp nd
    exact ⟨this.2, fun d hd z => this.1 (z ▸ List.mem_map_of_mem hd)⟩
  | @tail d L R h ih =>
    rw [List.map_cons] at nd
    have nd' := List.nodup_cons.mp nd
    obtain ⟨i1, i2⟩ := ih nd'.2
    refine ⟨by
      rw [List.map_cons, List.nodup_cons]
      refine ⟨fun z => ?_, i1⟩
      obtain ⟨x, hx, ex⟩ := List.mem_map.mp z
      exact nd'.1 (ex ▸ List.mem_map_of_mem (h.mem.2 x hx)), fun x hx => ?_⟩
    rcases List.mem_cons.mp hx with rfl | hx
    · exact fun z => nd'.1 (z ▸ List.mem_map_of_mem h.mem.1)
    · exact i2 x hx
theorem Sb.mem {L' L : List (Addr × HO)} (h : Sb L' L) : ∀ c ∈ L', c ∈ L := by
  induction h with
  | nil => intro c hc; cases hc
  | cons h t ih =>
    intro c hc
    rcases List.mem_cons.mp hc with rfl | hc
    · exact h.mem.1
    · exact h.mem.2 c (ih c hc)
theorem Sb.nd {L' L : List (Addr × HO)} (h : Sb L' L) : (L.map (·.1)).Nodup → (L'.map (·.1)).Nodup := by
  induction h with
  | nil => intro _; exact List.nodup_nil
  | cons h t ih =>
    intro nd
    obtain ⟨n1, n2⟩ := h.nd nd
    rw [List.map_cons, List.nodup_cons]
    refine ⟨fun z => ?_, ih n1⟩
    obtain ⟨x, hx, ex⟩ := List.mem_map.mp z
    exact n2 x (t.mem x hx) ex
section
variable {H0 H H' : Hp} {M : List Addr} {L L' : List (Addr × HO)} {I I' : List Im} {p q l a : Addr} {o o' u : HO} {xs ys r : List V} {rs : List (List V)} {K : PySem.W.Frag}
theorem SH.nil : SH H M H [] [] := ⟨fun _ _ _ h => h, (fun _ h => by cases h), (fun _ h => by cases h), List.nodup_nil, (fun _ h => by cases h), (fun _ h => by cases h)⟩
theorem SH.addM (F : SH H0 M H0 L I) (hm : p ∈ M) (h : H0 p = some o) (ht : isTup o = false) (ne : ∀ c ∈ L, c.1 ≠ p) : SH H0 M H0 ((p, o) :: L) I := by
  refine ⟨F.fr, F.im, ?_, ?_, ?_, ?_⟩
  · intro c hc
    rcases List.mem_cons.mp hc with rfl | hc
    · exact h
    · exact F.at' c hc
  · rw [List.map_cons, List.nodup_cons]
    refine ⟨fun z => ?_, F.nd⟩
    obtain ⟨x, hx, ex⟩ := List.mem_map.mp z
    exact ne x hx ex
  · intro c hc
    rcases List.mem_cons.mp hc with rfl | hc
    · exact ht
    · exact F.mu c hc
  · intro c hc
    rcases List.mem_cons.mp hc with rfl | hc
    · exact .inl hm
    · exact F.ch c hc
theorem SH.addT (F : SH H0 M H L I) (h : H q = some (.tup r)) : SH H0 M H L (.tup q r :: I) := ⟨F.fr, fun f hf => by
  rcases List.mem_cons.mp hf with rfl | hf
  · exact h
  · exact F.im f hf, F.at', F.nd, F.mu, F.ch⟩
theorem SH.addP (F : SH H0 M H L I) (h : TupsAt H ys rs) : SH H0 M H L (.tps ys rs :: I) := ⟨F.fr, fun f hf => by
  rcases List.mem_cons.mp hf with rfl | hf
  · exact h
  · exact F.im f hf, F.at', F.nd, F.mu, F.ch⟩
theorem SH.same (F : SH H0 M H L I) (s : Same H H') : SH H0 M H' L I := ⟨fun b u n e => s b u (F.fr b u n e), fun f hf => Im.stay (fun q u _ e => s q u e) (F.im f hf), fun c hc => s _ _ (F.at' c hc), F.nd, F.mu, F.ch⟩
theorem SH.newT (F : SH H0 M H L I) (n : New H H' q (.tup r)) : SH H0 M H' L (.tup q r :: I) := (F.same n.s).addT n.e
theorem SH.newO (F : SH H0 M H L I) (n : New H H' p o) (ht : isTup o = false) : SH H0 M H' ((p, o) :: L) I := by
  have F' := F.same n.s
  refine ⟨F'.fr, F'.im, ?_, ?_, ?_, ?_⟩
  · intro c hc
    rcases List.mem_cons.mp hc with rfl | hc
    · exact n.e
    · exact F'.at' c hc
  · rw [List.map_cons, List.nodup_cons]
    refine ⟨fun z => ?_, F.nd⟩
    obtain ⟨x, hx, ex⟩ := List.mem_map.mp z
    exact n.n _ _ (F.at' x hx) ex
  · intro c hc
    rcases List.mem_cons.mp hc with rfl | hc
    · exact ht
    · exact F.mu c hc
  · intro c hc
    rcases List.mem_cons.mp hc with rfl | hc
    · by_cases hm : p ∈ M
      · exact .inl hm
      · exact .inr fun b u e z => by
          by_cases hb : b ∈ M
          · exact hm (by have z' : b = p := z; rw [← z']; exact hb)
          · exact n.n b u (F.fr b u hb e) z
    · exact F.ch c hc
theorem SH.newL (F : SH H0 M H L I) (n : New H H' p (.lst xs)) : SH H0 M H' ((p, .lst xs) :: L) I := F.newO n rfl
theorem SH.newR (F : SH H0 M H L I) (n : New H H' p (.lst ys)) (t : TupsAt H' ys rs) : SH H0 M H' ((p, .lst ys) :: L) (.tps ys rs :: I) := (F.newL n).addP t
theorem SH.kp (F : SH H0 M H L I) (k : Kp l H H') (e : H' l = some o') (u : Up l o' L L') (ht : isTup o' = false := by rfl) : SH H0 M H' L' I := by
  obtain ⟨o, ho⟩ := u.src
  have hl := F.at' _ ho
  have hu := F.mu _ ho
  refine ⟨fun b w nb e0 => k b w (fun z => ?_) (F.fr b w nb e0), fun f hf => Im.stay (fun q v hv e1 => k q _ (fun z => ?_) e1) (F.im f hf), fun c hc => ?_, by rw [u.keys]; exact F.nd, fun c hc => ?_, fun c hc => ?_⟩
  · rcases F.ch _ ho with h | h
    · exact nb (by rw [z]; exact h)
    · exact h b w e0 z
  · rw [z, hl] at e1
    cases e1
    rw [hu] at hv
    cases hv
  · rcases u.each F.nd c hc with rfl | ⟨h1, h2⟩
    · exact e
    · exact k _ _ h2 (F.at' c h1)
  · rcases u.each F.nd c hc with rfl | ⟨h1, h2⟩
    · exact ht
    · exact F.mu c h1
  · rcases u.each F.nd c hc with rfl | ⟨h1, h2⟩
    · exact F.ch (l, o) ho
    · exact F.ch c h1
theorem SH.off (F : SH H0 M H L I) (f : Off l H H') (e : H' l = some o') (u : Up l o' L L') (ht : isTup o' = false := by rfl) : SH H0 M H' L' I := F.kp f.kp e u ht
theorem SH.offL (F : SH H0 M H L I) (f : Off l H H') (e : H' l = some (.lst xs)) (u : Up l (.lst xs) L L') : SH H0 M H' L' I := F.kp f.kp e u rfl
theorem SH.kpL (F : SH H0 M H L I) (f : Kp l H H') (e : H' l = some (.lst xs)) (u : Up l (.lst xs) L L') : SH H0 M H' L' I := F.kp f e u rfl
theorem SH.raw (F : SH H0 M H L I) (m : (a, o) ∈ L) : H a = some o := F.at' _ m
theorem SH.tup (F : SH H0 M H L I) (m : .tup q r ∈ I) : H q = some (.tup r) := F.im _ m
theorem SH.tps (F : SH H0 M H L I) (m : .tps ys rs ∈ I) : TupsAt H ys rs := F.im _ m
theorem SH.old (F : SH H0 M H L I) (h : H0 a = some u) (n : a ∉ M) : H a = some u := F.fr a u n h
theorem SH.sq (F : SH H0 M H L I) (h : SqL K H0 a xs) (n : a ∉ M) : SqL K H a xs := by
  rcases h with (h | ⟨o, h⟩) | h
  · exact .inl (.inl (F.fr a _ n h))
  · exact .inl (.inr ⟨o, F.fr a _ n h⟩)
  · exact .inr h
theorem SH.sub (F : SH H0 M H L I) (s : Sb L' L) (t : ∀ f ∈ I', f ∈ I) : SH H0 M H L' I' := ⟨F.fr, fun f hf => F.im f (t f hf), fun c hc => F.at' c (s.mem c hc), s.nd F.nd, fun c hc => F.mu c (s.mem c hc), fun c hc => F.ch c (s.mem c hc)⟩
theorem SH.sm (F : SH H0 [] H L I) : Same H0 H := fun b u e => F.fr b u List.not_mem_nil e
theorem SH.kpo (F : SH H0 [p] H L I) : Kp p H0 H := fun b u n e => F.fr b u (fun z => n (List.mem_singleton.mp z)) e
theorem SH.nw (F : SH H0 [] H L I) (m : (q, o) ∈ L) : New H0 H q o := ⟨F.sm, F.at' _ m, fun b u e => by
  rcases F.ch _ m with h | h
  · exact absurd h List.not_mem_nil
  · exact h b u e⟩
theorem SH.fresh (F : SH H0 M H L I) (m : (q, o) ∈ L) (n : q ∉ M) : ∀ b u, H0 b = some u → b ≠ q := fun b u e => by
  rcases F.ch _ m with h | h
  · exact absurd h n
  · exact h b u e
theorem nm0 : a ∉ ([] : List Addr) := List.not_mem_nil
theorem nm1 (h : a ≠ p) : a ∉ [p] := fun z => h (List.mem_singleton.mp z)
theorem SH.app (F : SH H0 M H L I) (m : .tps ys rs ∈ I) (m' : .tup q r ∈ I) : SH H0 M H L (.tps (ys ++ [.ref q]) (rs ++ [r]) :: I) := F.addP ((F.tps m).snoc (F.tup m'))
end
class Go (G : Prop) (G' : outParam Prop) : Prop where
  go : G' → G
theorem go1 {G G' : Prop} [h : Go G G'] (k : G') : G := h.go k
class LkL (L : List (Addr × HO)) (a : Addr) (o : outParam HO) : Prop where
  m : (a, o) ∈ L
class LkI (I : List Im) (a : Addr) (r : outParam (List V)) : Prop where
  m : .tup a r ∈ I
class LkP (I : List Im) (ys : List V) (rs : outParam (List (List V))) : Prop where
  m : .tps ys rs ∈ I
class LkU (L : List (Addr × HO)) (l : Addr) (o : HO) (L' : outParam (List (Addr × HO))) : Prop where
  u : Up l o L L'
class Old (H0 : Hp) (M : List Addr) (a : Addr) (o : outParam HO) : Prop where
  e : H0 a = some o
  n : a ∉ M
class OldQ (K : PySem.W.Frag) (H0 : Hp) (M : List Addr) (a : Addr) (xs : outParam (List V)) : Prop where
  e : SqL K H0 a xs
  n : a ∉ M
class Hat (H : Hp) (a : Addr) (o : outParam HO) : Prop where
  e : H a = some o
class SqA (K : PySem.W.Frag) (H : Hp) (a : Addr) (xs : outParam (List V)) : Prop where
  e : SqL K H a xs
class SqB (K : PySem.W.Frag) (H : Hp) (a : Addr) (xs : outParam (List V)) : Prop where
  e : SqT K H a xs
class TpA (H : Hp) (ys : List V) (rs : outParam (List (List V))) : Prop where
  e : TupsAt H ys rs
class AtI (xs : List V) (i : Int) (v : outParam V) : Prop where
  e : atI xs i = some v
section
variable {H0 H H' : Hp} {M : List Addr} {L L' : List (Addr × HO)} {I : List Im} {a p l : Addr} {o o' : HO} {c : Addr × HO} {f : Im} {r xs ys : List V} {rs : List (List V)} {K : PySem.W.Frag} {v v0 v1 v2 v3 : V}
instance lkL1 [h : LkL L a o] : LkL (c :: L) a o := ⟨List.mem_cons_of_mem _ h.m⟩
instance lkL0 : LkL ((a, o) :: L) a o := ⟨List.mem_cons_self⟩
instance lkI1 [h : LkI I a r] : LkI (f :: I) a r := ⟨List.mem_cons_of_mem _ h.m⟩
instance lkI0 : LkI (.tup a r :: I) a r := ⟨List.mem_cons_self⟩
instance lkP1 [h : LkP I ys rs] : LkP (f :: I) ys rs := ⟨List.mem_cons_of_mem _ h.m⟩
instance lkP0 : LkP (.tps ys rs :: I) ys rs := ⟨List.mem_cons_self⟩
instance lkU1 [h : LkU L l o L'] : LkU (c :: L) l o (c :: L') := ⟨.tail h.u⟩
instance lkU0 : LkU ((l, o') :: L) l o ((l, o) :: L) := ⟨.head⟩
instance hat_old [F : SH H0 M H L I] [h : Old H0 M a o] : Hat H a o := ⟨F.fr a o h.n h.e⟩
instance hat_tup [F : SH H0 M H L I] [h : LkI I a r] : Hat H a (.tup r) := ⟨F.tup h.m⟩
instance hat_lst [F : SH H0 M H L I] [h : LkL L a o] : Hat H a o := ⟨F.raw h.m⟩
instance sqA_old [F : SH H0 M H L I] [h : OldQ K H0 M a xs] : SqA K H a xs := ⟨F.sq h.e h.n⟩
instance sqA_hat [h : Hat H a (.lst xs)] : SqA K H a xs := ⟨.of h.e⟩
instance sqB_hat [h : Hat H a (.tup xs)] : SqB K H a xs := ⟨.of h.e⟩
instance tpA_tps [F : SH H0 M H L I] [h : LkP I ys rs] : TpA H ys rs := ⟨F.tps h.m⟩
instance at0 : AtI (v :: r) 0 v := ⟨atI_0⟩
instance at1 : AtI (v0 :: v :: r) 1 v := ⟨atL1⟩
instance at2 : AtI (v0 :: v1 :: v :: r) 2 v := ⟨atL2⟩
instance at3 : AtI (v0 :: v1 :: v2 :: v :: r) 3 v := ⟨atL3⟩
variable {Z : Addr → Hp → Prop} {R : Hp → Prop} {C dx : Addr} {fs : List (Str × V)}
instance nx_tup [F : SH H0 M H L I] : Go (∀ p H', New H H' p (.tup xs) → Z p H') (∀ H' p, SH H0 M H' L (.tup p xs :: I) → Z p H') := ⟨fun k p H' n => k H' p (F.newT n)⟩
instance nx_lst [F : SH H0 M H L I] : Go (∀ p H', New H H' p (.lst xs) → Z p H') (∀ H' p, SH H0 M H' ((p, .lst xs) :: L) I → Z p H') := ⟨fun k p H' n => k H' p (F.newL n)⟩
instance nx_off [F : SH H0 M H L I] [u : LkU L l (.lst xs) L'] : Go (∀ H', Off l H H' → H' l = some (.lst xs) → R H') (∀ H', SH H0 M H' L' I → R H') := ⟨fun k H' f e => k H' (F.offL f e u.u)⟩
instance nx_kp [F : SH H0 M H L I] [u : LkU L l (.lst xs) L'] : Go (∀ H', Kp l H H' → H' l = some (.lst xs) → R H') (∀ H', SH H0 M H' L' I → R H') := ⟨fun k H' f e => k H' (F.kpL f e u.u)⟩
instance nx_same [F : SH H0 M H L I] : Go (∀ H', Same H H' → R H') (∀ H', SH H0 M H' L I → R H') := ⟨fun k H' s => k H' (F.same s)⟩
def Sd (A B : Prop) : Prop := A ∧ B
theorem sd {A B : Prop} (a : A) (b : B) : Sd A B := ⟨a, b⟩
class FLk (fs : List (Str × V)) (f : Str) (v : outParam V) : Prop where
  e : fs.lookup f = some v
theorem SH.nwC {H0 : Hp} {L : List (Addr × HO)} {I : List Im} [F : SH H0 [] H L I] [h : LkL L p o] : New H0 H p o := F.nw h.m
theorem hatC [h : Hat H a o] : H a = some o := h.e
variable {Q : VK} {E : XK} {R' : Prop} {σ : St} {i j : Int} {f m : Str} {y : V} {b : Addr} {lo hi : Option Int}
instance go_made {n : Nat} : Go (n ≤ sizeLine ∧ ∀ p H', New H H' p o → Z p H') (Sd (n ≤ sizeLine) (∀ p H', New H H' p o → Z p H')) := ⟨id⟩
instance go_isTT [h : Hat H l (.tup xs)] : Go (rIsT K [.ref l, .ty "tuple"] H Q) (Q (.bl true) H) := ⟨w_isTT h.e⟩
instance go_isLL [h : Hat H l (.lst xs)] : Go (rIsT K [.ref l, .ty "list"] H Q) (Q (.bl true) H) := ⟨w_isLL h.e⟩
instance go_isTL [h : Hat H l (.tup xs)] : Go (rIsT K [.ref l, .ty "list"] H Q) (Q (.bl false) H) := ⟨w_isTL h.e⟩
instance go_lenT [h : SqB K H l xs] : Go (rLen K [.ref l] H Q) (Q (.int xs.length) H) := ⟨w_lenT h.e⟩
instance go_lenL [h : SqA K H l xs] : Go (rLen K [.ref l] H Q) (Q (.int xs.length) H) := ⟨w_lenL h.e⟩
instance go_ixL [h : SqA K H l xs] [e : AtI xs i v] : Go (rIxL K (.ref l) (.int i) H Q) (Q v H) := ⟨w_ixL h.e e.e⟩
instance go_ixT [h : SqB K H l xs] [e : AtI xs i v] : Go (rIxT K (.ref l) (.int i) H Q) (Q v H) := ⟨w_ixT h.e e.e⟩
instance go_tyL [h : SqA K H l xs] : Go (tyV K "list" (.ref l) H ∧ R') R' := ⟨w_tyL h.e⟩
instance go_app [h : Hat H l (.lst xs)] : Go (rAppA (.ref l) [y] H Q) (Sd (xs.length < sizeLine) (∀ H', Off l H H' → H' l = some (.lst (xs ++ [y])) → Q .non H')) := ⟨fun s => w_app h.e s.1 s.2⟩
instance go_ext [h : Hat H l (.lst xs)] [h2 : Hat H b (.lst ys)] : Go (rExtA (.ref l) [.ref b] H Q) (Sd (xs.length + ys.length ≤ sizeLine) (∀ H', Off l H H' → H' l = some (.lst (xs ++ ys)) → Q .non H')) := ⟨fun s => w_ext h.e h2.e s.1 s.2⟩
instance go_slA [h : SqA K H l xs] : Go (rSlA K (.ref l) lo hi H Q) (∀ p H', New H H' p (.lst (cutV xs lo hi)) → Q (.ref p) H') := ⟨w_slA h.e⟩
instance go_catA [h : Hat H l (.lst xs)] [h2 : Hat H b (.lst ys)] : Go (rCatA (.ref l) (.ref b) H Q) (Sd (xs.length + ys.length ≤ sizeLine) (∀ p H', New H H' p (.lst (xs ++ ys)) → Q (.ref p) H')) := ⟨fun s => w_catA h.e h2.e s.1 s.2⟩
instance go_lofL [h : SqA K H l xs] : Go (rLOfA K [.ref l] H Q) (∀ p H', New H H' p (.lst xs) → Q (.ref p) H') := ⟨w_lofL h.e⟩
instance go_tup2 {n i0 i1 : Nat} {a b : V} {R : St → Hp → Prop} [h : SqB K H l [a, b]] : Go (gTup K n (gCons (gName i0) (gCons (gName i1) gNil)) (.ref l) σ H R) (Sd (n = 2) (gName i0 a σ H fun σ1 H1 => gName i1 b σ1 H1 R)) := ⟨fun s => w_tupB s.1 h.e s.2⟩
instance go_mod {f : Int → Int → V} : Go (rI (fun _ j => 0 < j) f (.int i) (.int j) H Q) (Sd (0 < j) (Q (f i j) H)) := ⟨fun s => w_mod s.1 s.2⟩
instance go_div {f : Int → Int → V} : Go (rI CDiv f (.int i) (.int j) H Q) (Sd (0 < j ∧ j < 1073741824) (Q (f i j) H)) := ⟨fun s => w_div s.1.1 s.1.2 s.2⟩
instance go_pow {f : Int → Int → V} : Go (rI CPow f (.int i) (.int j) H Q) (Sd (0 ≤ j ∧ j ≤ 1000000 ∧ i.natAbs < 2 ^ 64) (Q (f i j) H)) := ⟨fun s => w_pow s.1.1 s.1.2.1 s.1.2.2 s.2⟩
instance go_mul {f : Int → Int → V} : Go (rI CMul f (.int i) (.int j) H Q) (Sd ((-(2 ^ 64) < i ∧ i < 2 ^ 64) ∨ (-(2 ^ 64) < j ∧ j < 2 ^ 64)) (Q (f i j) H)) := ⟨fun s => s.1.elim (fun h => w_mulL h.1 h.2 s.2) (fun h => w_mulR h.1 h.2 s.2)⟩
end
instance go_go_seq {σ : L2.St} {H : Hp} {D : Ends} {s u : TS} : Go (tSeq s u D σ H) (s (Ends.mk (u D) (Ends.rt D) (Ends.bk D) (Ends.ct D)) σ H) := ⟨go_seq⟩
instance go_go_asg {σ : L2.St} {H : Hp} {t : TE} {D : Ends} {tg : TG} : Go (tAsg t tg D σ H) ((t σ H fun (x : V) (H1 : Hp) ↦ tg x σ H1 (Ends.nx D))) := ⟨go_asg⟩
instance go_go_ret {σ : L2.St} {H : Hp} {t : TE} {D : Ends} : Go (tRet t D σ H) (t σ H (Ends.rt D)) := ⟨go_ret⟩
instance go_go_if {σ : L2.St} {H : Hp} {D : Ends} {s u : TS} {c : TT} : Go (tIfS c s u D σ H) ((c σ H fun (b : Bool) (H1 : Hp) ↦ if b = true then s D σ H1 else u D σ H1)) := ⟨go_if⟩
instance go_go_drop {σ : L2.St} {H : Hp} {t : TE} {D : Ends} : Go (tDrop t D σ H) ((t σ H fun (x : V) (H1 : Hp) ↦ Ends.nx D σ H1)) := ⟨go_drop⟩
instance go_go_next {σ : L2.St} {H : Hp} {D : Ends} : Go (tNext D σ H) (Ends.nx D σ H) := ⟨go_next⟩
instance go_go_nx {σ : L2.St} {H : Hp} {nx bk ct : L2.St → Hp → Prop} {rt : VK} : Go (Ends.nx (Ends.mk nx rt bk ct) σ H) (nx σ H) := ⟨go_nx⟩
instance go_w_rt {H : Hp} {v : V} {nx bk ct : L2.St → Hp → Prop} {rt : VK} : Go (Ends.rt (Ends.mk nx rt bk ct) v H) (rt v H) := ⟨w_rt⟩
instance go_go_test {σ : L2.St} {H : Hp} {t : TE} {Q : Bool → Hp → Prop} : Go (tTest t σ H Q) ((t σ H fun (x : V) (H' : Hp) ↦ ∃ (k : Bool), x = V.bl k ∧ Q k H')) := ⟨go_test⟩
instance go_go_b {σ : L2.St} {H : Hp} {t : TE} {Q : Bool → Hp → Prop} : Go (tB t σ H Q) ((t σ H fun (x : V) (H' : Hp) ↦ ∃ (k : Bool), x = V.bl k ∧ Q k H')) := ⟨go_b⟩
instance go_go_op {σ : L2.St} {H : Hp} {ta tb : TE} {Q : VK} {r : R2} : Go (tOp r ta tb σ H Q) ((ta σ H fun (x : V) (H1 : Hp) ↦ tb σ H1 fun (y : V) (H2 : Hp) ↦ r x y H2 Q)) := ⟨go_op⟩
instance go_go_cb {σ : L2.St} {H : Hp} {tr : TA} {Q : VK} {r : List V → Hp → VK → Prop} : Go (tCB r tr σ H Q) ((tr σ H fun (vs : List V) (H1 : Hp) ↦ r vs H1 Q)) := ⟨go_cb⟩
instance go_go_cons {σ : L2.St} {H : Hp} {t : TE} {tr : TA} {Q : List V → Hp → Prop} : Go (tCons t tr σ H Q) ((t σ H fun (x : V) (H1 : Hp) ↦ tr σ H1 fun (xs : List V) (H2 : Hp) ↦ Q (x :: xs) H2)) := ⟨go_cons⟩
instance go_go_nil {σ : L2.St} {H : Hp} {Q : List V → Hp → Prop} : Go (tNil σ H Q) (Q [] H) := ⟨go_nil⟩
instance go_w_call {σ : L2.St} {H : Hp} {Q : VK} {tr : TA} {sp : Sp} {E : XK} : Go (tCall sp [] E tr σ H Q) ((tr σ H fun (vs : List V) (H1 : Hp) ↦ sp vs H1 Q E)) := ⟨w_call⟩
instance go_w_c {σ : L2.St} {H : Hp} {Q : VK} {v : V} : Go (tC v σ H Q) (Q v H) := ⟨w_c⟩
instance go_wv0 {H : Hp} {Q : VK} {v : V} {r : L2.St} : Go (tVar 0 (some v :: r) H Q) (Q v H) := ⟨wv0⟩
instance go_wv1 {H : Hp} {Q : VK} {v : V} {o0 : Option V} {r : L2.St} : Go (tVar 1 (o0 :: some v :: r) H Q) (Q v H) := ⟨wv1⟩
instance go_wv2 {H : Hp} {Q : VK} {v : V} {o0 o1 : Option V} {r : L2.St} : Go (tVar 2 (o0 :: o1 :: some v :: r) H Q) (Q v H) := ⟨wv2⟩
instance go_wv3 {H : Hp} {Q : VK} {v : V} {o0 o1 o2 : Option V} {r : L2.St} : Go (tVar 3 (o0 :: o1 :: o2 :: some v :: r) H Q) (Q v H) := ⟨wv3⟩
instance go_wv4 {H : Hp} {Q : VK} {v : V} {o0 o1 o2 o3 : Option V} {r : L2.St} : Go (tVar 4 (o0 :: o1 :: o2 :: o3 :: some v :: r) H Q) (Q v H) := ⟨wv4⟩
instance go_wv5 {H : Hp} {Q : VK} {v : V} {o0 o1 o2 o3 o4 : Option V} {r : L2.St} : Go (tVar 5 (o0 :: o1 :: o2 :: o3 :: o4 :: some v :: r) H Q) (Q v H) := ⟨wv5⟩
instance go_wv6 {H : Hp} {Q : VK} {v : V} {o0 o1 o2 o3 o4 o5 : Option V} {r : L2.St} : Go (tVar 6 (o0 :: o1 :: o2 :: o3 :: o4 :: o5 :: some v :: r) H Q) (Q v H) := ⟨wv6⟩
instance go_wv7 {H : Hp} {Q : VK} {v : V} {o0 o1 o2 o3 o4 o5 o6 : Option V} {r : L2.St} : Go (tVar 7 (o0 :: o1 :: o2 :: o3 :: o4 :: o5 :: o6 :: some v :: r) H Q) (Q v H) := ⟨wv7⟩
instance go_wv8 {H : Hp} {Q : VK} {v : V} {o0 o1 o2 o3 o4 o5 o6 o7 : Option V} {r : L2.St} : Go (tVar 8 (o0 :: o1 :: o2 :: o3 :: o4 :: o5 :: o6 :: o7 :: some v :: r) H Q) (Q v H) := ⟨wv8⟩
instance go_wv9 {H : Hp} {Q : VK} {v : V} {o0 o1 o2 o3 o4 o5 o6 o7 o8 : Option V} {r : L2.St} : Go (tVar 9 (o0 :: o1 :: o2 :: o3 :: o4 :: o5 :: o6 :: o7 :: o8 :: some v :: r) H Q) (Q v H) := ⟨wv9⟩
instance go_wv10 {H : Hp} {Q : VK} {v : V} {o0 o1 o2 o3 o4 o5 o6 o7 o8 o9 : Option V} {r : L2.St} : Go (tVar 10 (o0 :: o1 :: o2 :: o3 :: o4 :: o5 :: o6 :: o7 :: o8 :: o9 :: some v :: r) H Q) (Q v H) := ⟨wv10⟩
instance go_wv11 {H : Hp} {Q : VK} {v : V} {o0 o1 o2 o3 o4 o5 o6 o7 o8 o9 o10 : Option V} {r : L2.St} : Go (tVar 11 (o0 :: o1 :: o2 :: o3 :: o4 :: o5 :: o6 :: o7 :: o8 :: o9 :: o10 :: some v :: r) H Q) (Q v H) := ⟨wv11⟩
instance go_wv12 {H : Hp} {Q : VK} {v : V} {o0 o1 o2 o3 o4 o5 o6 o7 o8 o9 o10 o11 : Option V} {r : L2.St} : Go (tVar 12 (o0 :: o1 :: o2 :: o3 :: o4 :: o5 :: o6 :: o7 :: o8 :: o9 :: o10 :: o11 :: some v :: r) H Q) (Q v H) := ⟨wv12⟩
instance go_wv13 {H : Hp} {Q : VK} {v : V} {o0 o1 o2 o3 o4 o5 o6 o7 o8 o9 o10 o11 o12 : Option V} {r : L2.St} : Go (tVar 13 (o0 :: o1 :: o2 :: o3 :: o4 :: o5 :: o6 :: o7 :: o8 :: o9 :: o10 :: o11 :: o12 :: some v :: r) H Q) (Q v H) := ⟨wv13⟩
instance go_wn1 {H : Hp} {v : V} {o0 o : Option V} {r : L2.St} {R : L2.St → Hp → Prop} : Go (gName 1 v (o0 :: o :: r) H R) (R (o0 :: some v :: r) H) := ⟨wn1⟩
instance go_wn2 {H : Hp} {v : V} {o0 o1 o : Option V} {r : L2.St} {R : L2.St → Hp → Prop} : Go (gName 2 v (o0 :: o1 :: o :: r) H R) (R (o0 :: o1 :: some v :: r) H) := ⟨wn2⟩
instance go_wn3 {H : Hp} {v : V} {o0 o1 o2 o : Option V} {r : L2.St} {R : L2.St → Hp → Prop} : Go (gName 3 v (o0 :: o1 :: o2 :: o :: r) H R) (R (o0 :: o1 :: o2 :: some v :: r) H) := ⟨wn3⟩
instance go_wn4 {H : Hp} {v : V} {o0 o1 o2 o3 o : Option V} {r : L2.St} {R : L2.St → Hp → Prop} : Go (gName 4 v (o0 :: o1 :: o2 :: o3 :: o :: r) H R) (R (o0 :: o1 :: o2 :: o3 :: some v :: r) H) := ⟨wn4⟩
instance go_wn5 {H : Hp} {v : V} {o0 o1 o2 o3 o4 o : Option V} {r : L2.St} {R : L2.St → Hp → Prop} : Go (gName 5 v (o0 :: o1 :: o2 :: o3 :: o4 :: o :: r) H R) (R (o0 :: o1 :: o2 :: o3 :: o4 :: some v :: r) H) := ⟨wn5⟩
instance go_wn6 {H : Hp} {v : V} {o0 o1 o2 o3 o4 o5 o : Option V} {r : L2.St} {R : L2.St → Hp → Prop} : Go (gName 6 v (o0 :: o1 :: o2 :: o3 :: o4 :: o5 :: o :: r) H R) (R (o0 :: o1 :: o2 :: o3 :: o4 :: o5 :: some v :: r) H) := ⟨wn6⟩
instance go_wn7 {H : Hp} {v : V} {o0 o1 o2 o3 o4 o5 o6 o : Option V} {r : L2.St} {R : L2.St → Hp → Prop} : Go (gName 7 v (o0 :: o1 :: o2 :: o3 :: o4 :: o5 :: o6 :: o :: r) H R) (R (o0 :: o1 :: o2 :: o3 :: o4 :: o5 :: o6 :: some v :: r) H) := ⟨wn7⟩
instance go_wn8 {H : Hp} {v : V} {o0 o1 o2 o3 o4 o5 o6 o7 o : Option V} {r : L2.St} {R : L2.St → Hp → Prop} : Go (gName 8 v (o0 :: o1 :: o2 :: o3 :: o4 :: o5 :: o6 :: o7 :: o :: r) H R) (R (o0 :: o1 :: o2 :: o3 :: o4 :: o5 :: o6 :: o7 :: some v :: r) H) := ⟨wn8⟩
instance go_wn9 {H : Hp} {v : V} {o0 o1 o2 o3 o4 o5 o6 o7 o8 o : Option V} {r : L2.St} {R : L2.St → Hp → Prop} : Go (gName 9 v (o0 :: o1 :: o2 :: o3 :: o4 :: o5 :: o6 :: o7 :: o8 :: o :: r) H R) (R (o0 :: o1 :: o2 :: o3 :: o4 :: o5 :: o6 :: o7 :: o8 :: some v :: r) H) := ⟨wn9⟩
instance go_wn10 {H : Hp} {v : V} {o0 o1 o2 o3 o4 o5 o6 o7 o8 o9 o : Option V} {r : L2.St} {R : L2.St → Hp → Prop} : Go (gName 10 v (o0 :: o1 :: o2 :: o3 :: o4 :: o5 :: o6 :: o7 :: o8 :: o9 :: o :: r) H R) (R (o0 :: o1 :: o2 :: o3 :: o4 :: o5 :: o6 :: o7 :: o8 :: o9 :: some v :: r) H) := ⟨wn10⟩
instance go_wn11 {H : Hp} {v : V} {o0 o1 o2 o3 o4 o5 o6 o7 o8 o9 o10 o : Option V} {r : L2.St} {R : L2.St → Hp → Prop} : Go (gName 11 v (o0 :: o1 :: o2 :: o3 :: o4 :: o5 :: o6 :: o7 :: o8 :: o9 :: o10 :: o :: r) H R) (R (o0 :: o1 :: o2 :: o3 :: o4 :: o5 :: o6 :: o7 :: o8 :: o9 :: o10 :: some v :: r) H) := ⟨wn11⟩
instance go_wn12 {H : Hp} {v : V} {o0 o1 o2 o3 o4 o5 o6 o7 o8 o9 o10 o11 o : Option V} {r : L2.St} {R : L2.St → Hp → Prop} : Go (gName 12 v (o0 :: o1 :: o2 :: o3 :: o4 :: o5 :: o6 :: o7 :: o8 :: o9 :: o10 :: o11 :: o :: r) H R) (R (o0 :: o1 :: o2 :: o3 :: o4 :: o5 :: o6 :: o7 :: o8 :: o9 :: o10 :: o11 :: some v :: r) H) := ⟨wn12⟩
instance go_wn13 {H : Hp} {v : V} {o0 o1 o2 o3 o4 o5 o6 o7 o8 o9 o10 o11 o12 o : Option V} {r : L2.St} {R : L2.St → Hp → Prop} : Go (gName 13 v (o0 :: o1 :: o2 :: o3 :: o4 :: o5 :: o6 :: o7 :: o8 :: o9 :: o10 :: o11 :: o12 :: o :: r) H R) (R (o0 :: o1 :: o2 :: o3 :: o4 :: o5 :: o6 :: o7 :: o8 :: o9 :: o10 :: o11 :: o12 :: some v :: r) H) := ⟨wn13⟩
instance go_w_i0 {H : Hp} {Q : VK} {i j : Int} {f : Int → Int → V} : Go (rI0 f (V.int i) (V.int j) H Q) (Q (f i j) H) := ⟨w_i0⟩
instance go_w_u {H : Hp} {Q : VK} {i : Int} {g : Int → V} : Go (rU g (V.int i) H Q) (Q (g i) H) := ⟨w_u⟩
instance go_w_un {σ : L2.St} {H : Hp} {Q : VK} {ta : TE} {r : V → Hp → VK → Prop} : Go (tUn r ta σ H Q) ((ta σ H fun (x : V) (H1 : Hp) ↦ r x H1 Q)) := ⟨w_un⟩
instance go_w_eqi {H : Hp} {Q : VK} {i j : Int} : Go (rEq (V.int i) (V.int j) H Q) (Q (V.bl (decide (i = j))) H) := ⟨w_eqi⟩
instance go_w_nei {H : Hp} {Q : VK} {i j : Int} : Go (rNe (V.int i) (V.int j) H Q) (Q (V.bl !decide (i = j)) H) := ⟨w_nei⟩
instance go_w_eqb {H : Hp} {Q : VK} {a b : Bool} : Go (rEq (V.bl a) (V.bl b) H Q) (Q (V.bl (decide (a = b))) H) := ⟨w_eqb⟩
instance go_w_bl {k : Bool} {R : Bool → Prop} : Go (∃ (c : Bool), V.bl k = V.bl c ∧ R c) (R k) := ⟨w_bl⟩
instance go_w_not {σ : L2.St} {H : Hp} {c : TT} {R : Bool → Hp → Prop} : Go (tNot c σ H R) ((c σ H fun (b : Bool) (H1 : Hp) ↦ R (!b) H1)) := ⟨w_not⟩
instance go_w_and {σ : L2.St} {H : Hp} {c d : TT} {R : Bool → Hp → Prop} : Go (tAnd c d σ H R) ((c σ H fun (b : Bool) (H1 : Hp) ↦ if b = true then d σ H1 R else R false H1)) := ⟨w_and⟩
instance go_w_or {σ : L2.St} {H : Hp} {c d : TT} {R : Bool → Hp → Prop} : Go (tOr c d σ H R) ((c σ H fun (b : Bool) (H1 : Hp) ↦ if b = true then R true H1 else d σ H1 R)) := ⟨w_or⟩
instance go_w_andV {σ : L2.St} {H : Hp} {Q : VK} {ta tb : TE} : Go (tAndV ta tb σ H Q) ((ta σ H fun (x : V) (H1 : Hp) ↦ ∃ (c : Bool), x = V.bl c ∧ if c = true then tb σ H1 Q else Q (V.bl false) H1)) := ⟨w_andV⟩
instance go_w_ifE {σ : L2.St} {H : Hp} {Q : VK} {ta tb : TE} {c : TT} : Go (tIf c ta tb σ H Q) ((c σ H fun (b : Bool) (H1 : Hp) ↦ if b = true then ta σ H1 Q else tb σ H1 Q)) := ⟨w_ifE⟩
instance go_w_bm {σ : L2.St} {H : Hp} {Q : VK} {K : W.Frag} {tr : TA} {T : String} {r : V → List V → Hp → VK → Prop} {to : TE} : Go (tBM K T r to tr σ H Q) ((to σ H fun (x : V) (H1 : Hp) ↦ tyV K T x H1 ∧ tr σ H1 fun (xs : List V) (H2 : Hp) ↦ r x xs H2 Q)) := ⟨w_bm⟩
instance go_w_sub {σ : L2.St} {H : Hp} {v : V} {to ti : TE} {ts : TSet} {R : L2.St → Hp → Prop} : Go (gSub to ti ts v σ H R) ((to σ H fun (o : V) (H1 : Hp) ↦ ti σ H1 fun (i : V) (H2 : Hp) ↦ ts o i v H2 fun (H3 : Hp) ↦ R σ H3)) := ⟨w_sub⟩
instance go_w_slice {σ : L2.St} {H : Hp} {Q : VK} {t : TE} {r : V → Option Int → Option Int → Hp → VK → Prop} {tl th : TO} : Go (tSl r t tl th σ H Q) ((t σ H fun (x : V) (H1 : Hp) ↦ tl σ H1 fun (l : Option Int) (H2 : Hp) ↦ th σ H2 fun (u : Option Int) (H3 : Hp) ↦ r x l u H3 Q)) := ⟨w_slice⟩
instance go_w_noPart {σ : L2.St} {H : Hp} {R : Option Int → Hp → Prop} : Go (tNoPart σ H R) (R none H) := ⟨w_noPart⟩
instance go_w_part {σ : L2.St} {H : Hp} {t : TE} {R : Option Int → Hp → Prop} : Go (tPart t σ H R) ((t σ H fun (x : V) (H1 : Hp) ↦ ∃ (i : Int), x = V.int i ∧ R (some i) H1)) := ⟨w_part⟩
instance go_w_int {i : Int} {R : Int → Prop} : Go (∃ (k : Int), V.int i = V.int k ∧ R k) (R i) := ⟨w_int⟩
instance go_w_max {H : Hp} {Q : VK} {i j : Int} : Go (rMax2 [V.int i, V.int j] H Q) (Q (V.int (max i j)) H) := ⟨w_max⟩
instance go_w_min {H : Hp} {Q : VK} {i j : Int} : Go (rMin2 [V.int i, V.int j] H Q) (Q (V.int (min i j)) H) := ⟨w_min⟩
instance go_w_intB {H : Hp} {Q : VK} {k : Bool} : Go (rInt1 [V.bl k] H Q) (Q (V.int (if k = true then 1 else 0)) H) := ⟨w_intB⟩
instance go_go_tupA {σ : L2.St} {H : Hp} {tr : TA} {Q : VK} : Go (tTupA tr σ H Q) ((tr σ H fun (xs : List V) (H1 : Hp) ↦ List.length xs ≤ sizeLine ∧ ∀ (p : Addr) (H' : Hp), New H1 H' p (HO.tup xs) → Q (V.ref p) H')) := ⟨go_tupA⟩
instance go_go_lstA {σ : L2.St} {H : Hp} {tr : TA} {Q : VK} : Go (tLstA tr σ H Q) ((tr σ H fun (xs : List V) (H1 : Hp) ↦ List.length xs ≤ sizeLine ∧ ∀ (p : Addr) (H' : Hp), New H1 H' p (HO.lst xs) → Q (V.ref p) H')) := ⟨go_lstA⟩
instance go_w_din {σ : L2.St} {H : Hp} {Q : VK} {td ty : TE} : Go (tDIn ty td σ H Q) ((ty σ H fun (y : V) (H1 : Hp) ↦ td σ H1 fun (x : V) (H2 : Hp) ↦ ∃ (a : Addr), ∃ (o : Option V), x = V.ref a ∧ DGet H2 a y o ∧ Q (V.bl (Option.isSome o)) H2)) := ⟨w_din⟩
instance go_w_dput {σ : L2.St} {H : Hp} {D : Ends} {td ty tv : TE} : Go (sDPut td ty tv D σ H) ((tv σ H fun (v : V) (H1 : Hp) ↦ td σ H1 fun (x : V) (H2 : Hp) ↦ ty σ H2 fun (y : V) (H3 : Hp) ↦ ∃ (a : Addr), ∃ (H4 : Hp), x = V.ref a ∧ DPut H3 a y v H4 ∧ Ends.nx D σ H4)) := ⟨w_dput⟩
instance go_i_tt {A B : Prop} : Go (if true = true then A else B) (A) := ⟨i_tt⟩
instance go_i_ff {A B : Prop} : Go (if false = true then A else B) (B) := ⟨i_ff⟩
instance go_i_ntt {A B : Prop} : Go (if (!true) = true then A else B) (B) := ⟨i_ntt⟩
instance go_i_nff {A B : Prop} : Go (if (!false) = true then A else B) (A) := ⟨i_nff⟩
instance go_w_forR1 {g : TG} {tb : TS} {D : Ends} {σ : L2.St} {H : Hp} {tr : TA} : Go (tFor (iRng1 tr) g tb D σ H) ((tr σ H fun (vs : List V) (H1 : Hp) ↦ ∃ (j : Int), vs = [V.int j] ∧ -2 ^ 62 ≤ j ∧ j < 2 ^ 62 ∧ ForR 0 (Int.toNat j) g tb D σ H1)) := ⟨w_forR1⟩
instance go_w_forL {K : W.Frag} {te : TE} {g : TG} {tb : TS} {D : Ends} {σ : L2.St} {H : Hp} : Go (tFor (iList K te) g tb D σ H) ((te σ H fun (x : V) (H1 : Hp) ↦ ∃ (a : Addr), x = V.ref a ∧ (∃ (xs : List V), SqL K H1 a xs) ∧ ForL K a g tb D σ H1)) := ⟨w_forL⟩
section
variable {K : PySem.W.Frag} {H : Hp} {Q : VK} {E : XK} {x : V} {n : String} {p q : Addr} {a b c lo hi : Int} {ns : List Int} {m : Int}
instance go_withinT : Go (sp_is_within K [.int a, .int lo, .int hi] H Q E) (Q (.bl (decide (lo ≤ a) && decide (a ≤ hi))) H) := ⟨fun k => ⟨_, _, lo, hi, rfl, .int _, k⟩⟩
instance go_cellA [h : SqA K H p (ns.map V.int)] : Go (sp_cellA K [.ref p, .int m] H Q E) (Sd (0 ≤ m) (∀ c : Int, Q (.int c) H)) := ⟨fun s => u_cellA h.e s.1 s.2⟩
instance go_boxA : Go (sp_boxA [.int a] H Q E) (∀ x y : Int, ∀ (p : Addr) (H' : Hp), New H H' p (.lst [.int x, .int y, .int 0]) → Q (.ref p) H') := ⟨fun k => u_boxA fun p x y H' n => k x y p H' n⟩
end
end L2
namespace L2
open PySem PySem.Spec PyProof.Rows
def Itq (lo st : Int) (n : Nat) : It := { go := fun i _ => i < n, yld := fun i H x H' => H' = H ∧ x = .int (lo + i * st), stop := fun i _ => n ≤ i }
theorem turn_steps {P : Program} {w : World} {K : PySem.W.Frag} {tg : Expr} (z : Addr) (lo st : Int) (n : Nat) : Turn P w K tg (Itq lo st n) [z] z (fun i h => IsRangeIter h z (lo + (i : Nat) * st) ((n : Int) - (i : Nat)) st) := by
  refine ⟨List.mem_singleton.mpr rfl, ?_, ?_, ?_, ?_, fun _ _ _ _ _ g h => wpAny_pyIter_rangeiter g h⟩
  · intro i h g b hb
    rw [List.mem_singleton.mp hb]
    refine ⟨_, g, fun v y => ?_⟩
    have y : Data.fields _ = Data.cell v := y
    cases y
  · exact fun i h h' g k => k z (List.mem_singleton.mpr rfl) _ g
  · intro X e1 e2 e3 hc i pins s σ H E I hf g hg
    subst e1
    subst e2
    subst e3
    have fp := hf z (List.mem_singleton.mpr rfl)
    refine (Walks.range (prog := X.prog) (w := X.w) (I.ok.hd hc) z lo st n).item i s _ _ hg g ?_
    rintro v h' tk ⟨t, rfl⟩ g2 kk
    have I1 : Inv X pins σ H { s with heap := h', toks := tk } := by
      refine I.turned (it := z) (fun b o hb e => kk b o (fun y => hb (List.mem_singleton.mp y)) e) ?_ ?_ ?_ ?_ ?_
      · exact fp.1
      · exact fp.2.1
      · exact fp.2.2.2.1
      · exact fp.2.2.2.2.1
      · exact fp.2.2.2.2.2
    exact ⟨_, rfl, go_of (s := { s with heap := h', toks := tk }) (n := "range_iterator") g2 rfl rfl (by decide) ⟨.int (lo + i * st), H, I1, ⟨t, rfl⟩, ⟨rfl, rfl⟩, g2, fun b hb => (hf b hb).1⟩⟩
  · intro X e1 e2 e3 hc i pins s σ H E I hf g hg
    subst e1
    subst e2
    subst e3
    have fp := hf z (List.mem_singleton.mpr rfl)
    have hg : n ≤ i := hg
    refine wpAny_pyNext_range_end (I.ok.hd hc) g (by omega) fun h' eb => ⟨rfl, ?_⟩
    refine I.turned (it := z) (t' := s.toks) (fun b o hb e => eb b o hb e) ?_ ?_ ?_ ?_ ?_
    · exact fp.1
    · exact fp.2.1
    · exact fp.2.2.2.1
    · exact fp.2.2.2.2.1
    · exact fp.2.2.2.2.2
section
variable {tr : TA} {g : TG} {tb : TS} {D : Ends} {σ : St} {H : Hp}
variable {K : PySem.W.Frag} {a : Addr} {xs : List V} {nt : Nat} {fr : List Nat} {c : TT} {te : TE} {Q : VK} {n m : Int}
instance go_lby [h : SqA K H a xs] : Go (∃ a', V.ref a = .ref a' ∧ (∃ xs, SqL K H a' xs) ∧ ForL K a' g tb D σ H) (ForL K a g tb D σ H) := ⟨l_by h.e⟩
end
class LkNe (L : List (Addr × HO)) (a b : Addr) : Prop where
  ne : (L.map (·.1)).Nodup → a ≠ b
section
variable {L R L' : List (Addr × HO)} {a b : Addr} {o : HO} {c : Addr × HO} {H0 H : Hp} {M : List Addr} {I : List Im}
instance lkNe2 [h : LkNe L a b] : LkNe (c :: L) a b := ⟨fun nd => h.ne (by rw [List.map_cons] at nd; exact (List.nodup_cons.mp nd).2)⟩
instance lkNe1 {o' : HO} [h : LkL L a o] : LkNe ((b, o') :: L) a b := ⟨fun nd z => by
  rw [List.map_cons] at nd
  exact (List.nodup_cons.mp nd).1 (by show b ∈ _; rw [← z]; exact List.mem_map_of_mem (f := (·.1)) h.m)⟩
instance lkNe0 {o' : HO} [h : LkL L b o] : LkNe ((a, o') :: L) a b := ⟨fun nd z => by
  rw [List.map_cons] at nd
  exact (List.nodup_cons.mp nd).1 (by show a ∈ _; rw [z]; exact List.mem_map_of_mem (f := (·.1)) h.m)⟩
theorem SH.neC [F : SH H0 M H L I] [h : LkNe L a b] : a ≠ b := h.ne F.nd
class PkC (c : Addr × HO) (L : List (Addr × HO)) (R : outParam (List (Addr × HO))) : Prop where
  p : Pk c L R
class SbC (L' L : List (Addr × HO)) : Prop where
  s : Sb L' L
instance pkC1 {d : Addr × HO} [h : PkC c L R] : PkC c (d :: L) (d :: R) := ⟨.tail h.p⟩
instance pkC0 : PkC c (c :: L) L := ⟨.head⟩
instance sbC0 : SbC [] L := ⟨.nil⟩
instance sbC1 [h : PkC c L R] [t : SbC L' R] : SbC (c :: L') L := ⟨.cons h.p t.s⟩
theorem SH.subC (F : SH H0 M H L I) [h : SbC L' L] : SH H0 M H L' [] := F.sub h.s (fun _ h => by cases h)
end
instance go_wv14 {H : Hp} {Q : VK} {v : V} {o0 o1 o2 o3 o4 o5 o6 o7 o8 o9 o10 o11 o12 o13 : Option V} {r : St} : Go (tVar 14 (o0 :: o1 :: o2 :: o3 :: o4 :: o5 :: o6 :: o7 :: o8 :: o9 :: o10 :: o11 :: o12 :: o13 :: some v :: r) H Q) (Q v H) := ⟨fun h => ⟨v, rfl, h⟩⟩
instance go_wn14 {H : Hp} {v : V} {o0 o1 o2 o3 o4 o5 o6 o7 o8 o9 o10 o11 o12 o13 o : Option V} {r : St} {R : St → Hp → Prop} : Go (gName 14 v (o0 :: o1 :: o2 :: o3 :: o4 :: o5 :: o6 :: o7 :: o8 :: o9 :: o10 :: o11 :: o12 :: o13 :: o :: r) H R) (R (o0 :: o1 :: o2 :: o3 :: o4 :: o5 :: o6 :: o7 :: o8 :: o9 :: o10 :: o11 :: o12 :: o13 :: some v :: r) H) := ⟨fun h => h⟩
end L2
namespace L2
open PySem PySem.Spec PyProof.Rows PySem.SeqAt
section
variable {K : PySem.W.Frag} {H0 H : Hp} {M : List Addr} {L L' : List (Addr × HO)} {I : List Im} {l b a p : Addr} {xs ys r : List V} {v v0 v1 y : V} {Q : VK} {R : Hp → Prop} {R' : Prop} {te : TE} {fvs σ : St} {fr : List Nat} {i j : Int} {Z : Addr → Hp → Prop}
instance go_setA [h : Hat H l (.lst xs)] : Go (rSetA (.ref l) (.int i) v H R) (Sd (0 ≤ i ∧ i < xs.length) (∀ H', Off l H H' → H' l = some (.lst (xs.set i.toNat v)) → R H')) := ⟨fun s => w_setA h.e (i_idx s.1.1 s.1.2) s.2⟩
instance go_forR1 {g : TG} {tb : TS} {D : Ends} : Go (∃ j : Int, [V.int i] = [.int j] ∧ -(2 ^ 62) ≤ j ∧ j < 2 ^ 62 ∧ ForR 0 j.toNat g tb D σ H) (Sd (-(2 ^ 62) ≤ i ∧ i < 2 ^ 62) (ForR 0 i.toNat g tb D σ H)) := ⟨fun s => ⟨i, rfl, s.1.1, s.1.2, s.2⟩⟩
end
end L2
namespace L2
open PySem PySem.Spec PyProof.Rows
abbrev ixBody (x : Str) (p1 p2 p3 : Pos) (j : Nat) : Expr := .Subscript (.Name x p1) (.Constant (.int 1) j p2) p3
structure LamScope (x : Str) (scope : Scope) : Prop where
  kind : scope.kind = .function
  co : scope.isCoroutine = false
  gen : scope.isGenerator = false
  loc : scope.names.lookup x = some .local
  nocell : ∀ y ∈ scope.names, y.2 ≠ .cell
  nodeb : (x == ("__debug__" : Str)) = false
theorem ObjOk.is {P : Program} {w : World} {H : Hp} {h : Heap} {a : Addr} {o : HO} (x : ObjOk P w H h a o) : ∃ ob, h.get? a = some ob := by
  cases o with
  | lst xs => obtain ⟨_, _, _, _, e⟩ := x; exact ⟨_, e⟩
  | tup xs => obtain ⟨_, _, _, ob, e, _⟩ := x; exact ⟨_, e⟩
  | dK kvs => obtain ⟨_, _, _, _, ob, _, _, e, _⟩ := x; exact ⟨_, e⟩
  | dT kvs => obtain ⟨_, _, _, _, ob, _, _, e, _⟩ := x; exact ⟨_, e⟩
  | set S n => obtain ⟨ob, _, _, _, e, _⟩ := x; exact ⟨_, e⟩
  | ins C dx fs => obtain ⟨_, _, _, e, _⟩ := x; exact ⟨_, e⟩
  | own y => exact x
  | xd fs => obtain ⟨_, ⟨ob, _, _, e, _⟩, _⟩ := x; exact ⟨_, e⟩
  | rng lo hi => obtain ⟨_, _, _, e⟩ := x; exact ⟨_, e⟩
  | frz ob u => exact ⟨_, x.1⟩
  | tbl ps => exact ⟨_, x⟩
  | met f y => exact ⟨_, x⟩
  | ext φ => exact x.2.1
def IsLam (H : Hp) (f : Addr) : Prop := ∃ (qual x : Str) (params : Arguments) (p1 p2 p3 : Pos) (j : Nat) (scope : Scope) (pm ctv : Value) (c' : Addr) (oc : Obj) (vs : Array Value) (t : Tok),
  H f = some (.frz (PySem.W.kla_obj "<lambda>" qual params (ixBody x p1 p2 p3 j) scope [] pm c' ctv) (.own f)) ∧ H c' = some (.frz oc (.own c')) ∧ oc.data = .fields vs ∧ vs[1]? = some (.str qual t) ∧ LamScope x scope ∧
  ∀ q : Addr, bindArgs (PySem.W.kla_fn "<lambda>" qual params (ixBody x p1 p2 p3 j) scope [] pm (.ref c') ctv) ⟨[.ref q], []⟩ = pure [(x, .ref q)]
def TabOk (pos : Pos) (qual : Str) (ps : Array Value) (H : Hp) : Prop := ps = #[] ∨ ∃ (c' : Addr) (oc : Obj) (vs : Array Value) (t : Tok), ps = #[rawInt pos.line, rawInt pos.col, .ref c'] ∧ H c' = some (.frz oc (.own c')) ∧ oc.data = .fields vs ∧ vs[1]? = some (.str qual t)
end L2
namespace L2
open PySem PySem.Spec PyProof.Rows PySem.SeqAt
def tx (cs : List Nat) : Str := ⟨cs.toArray⟩
theorem tx_len (cs : List Nat) : (tx cs).length = cs.length := by simp [tx, Str.length]
theorem tx_cps (cs : List Nat) : (tx cs).cps.toList = cs := by simp [tx]
def rSlS : R2 := fun x y H Q => ∃ z j, x = .str z ∧ y = .int j ∧ z.length ≤ sizeLine ∧ Q (.str (Txt.slice z none (some j))) H
def tSlS (te th : TE) : TE := fun σ H Q => te σ H fun x H1 => th σ H1 fun y H2 => rSlS x y H2 Q
section
variable {X : Cx} {e hi : Expr} {te th : TE} {p2 pos : Pos}
theorem pe_slS (he : PE X e te) (hu : PE X hi th) : PE X (.Subscript e (.Slice none (some hi) none p2) pos) (tSlS te th) := by
  intro pins s σ H Q I h
  refine Subscript_ (thn (he pins s σ H _ I h) fun v s1 ⟨x, H1, I1, r1, q1⟩ => ?_)
  refine wpAny_Slice (wpAny_evalPart_none (wpAny_evalPart_some (thn (hu pins s1 σ H1 _ I1 q1) fun vu s3 ⟨y, H3, I3, pu, z, j, e1, e2, hz, q3⟩ => wpAny_evalPart_none ?_)))
  subst e1
  subst e2
  obtain ⟨t, rfl⟩ := r1
  obtain ⟨t2, rfl⟩ := pu
  obtain ⟨Tn, id, h1, h2, h3⟩ := SBH.sliceItem_ns (prog := X.prog) (w := X.w) (A := X.A) (E := X.xe) (s := s3) (P := fun h => ∀ b o, s3.heap.get? b = some o → h.get? b = some o) (Q := EP X pins σ Q) (x := z) (t := t) (j := j) (uj := t2) (fun h ob k b o e4 => Heap.get?_push_of_some _ (k b o e4)) (fun _ _ e4 => e4) (fun h' t' k kp => ⟨.str _, H3, I3.kept kp, ⟨t', rfl⟩, q3⟩) hz
  exact tail_any (ops := [.ref s3.heap.objs.size, .str z t]) h2 h1 h3 (by with_unfolding_all rfl)
def rMulS : R2 := fun x y H Q => ∃ z n, x = .str z ∧ y = .int n ∧ MulOk z n ∧ Q (.str (Txt.mul z n)) H
theorem op_mulS : OpR X (binaryOp .Mult) rMulS := op_mul_str
def rPopA : V → List V → Hp → VK → Prop := fun x vs H Q => ∃ l xs i y, x = .ref l ∧ vs = [.int i] ∧ H l = some (.lst xs) ∧ 0 ≤ i ∧ i < xs.length ∧ xs.length ≤ 1000000 ∧ xs[i.toNat]? = some y ∧ ∀ H', Off l H H' → H' l = some (.lst (xs.eraseIdx i.toNat)) → Q y H'
theorem mt_popA : MtM X "list.pop" rPopA := by
  intro pins s σ H x vs v us Q I rx rv h
  obtain ⟨l, xs, i, y, e1, e2, hH, h0, h1, hz, hy, q⟩ := h
  refine mt_popAt pins s σ H x vs v us Q I rx rv ⟨l, xs, i, i.toNat, y, e1, e2, hH, by omega, by omega, ?_, hy, q _ Off.upd upd_same⟩
  unfold seqIndex?
  simp only [show ¬ i < 0 from by omega, if_false, h0, h1, decide_true, Bool.and_self, if_true]
theorem pe_popA {o e : Expr} {to te : TE} {apos cpos : Pos} (ho : PE X o to) (he : PE X e te) (hbase : attributeBase o "pop" X.env (eval o X.env) = eval o X.env := by rfl)
    (hfew : ((backTo cpos (starEach [e] X.env)).all (fun x => !x.1) && (backToKw cpos (keywordEach [] X.env)).all (fun x => x.1.isSome)
      && decide (([e] : List Expr).length + ([] : List Keyword).length + (if ([] : List Keyword).isEmpty then 0 else 1) < 30)) = true := by rfl)
    (hline : (apos.endLine == cpos.line) = true := by rfl) (hs : starEach [e] X.env = (false, eval e X.env) :: starEach [] X.env := by rfl) :
    PE X (.Call (.Attribute o "pop" apos) [e] [] cpos) (tBM X.K "list" rPopA to (tCons te tNil)) :=
  pe_bm PySem.F.plainAttrs_list PySem.F.slot_list_pop PySem.F.type_list_pop mt_popA ho (pa_cons he pa_nil hs) hbase hfew hline hs (by rfl)
end
theorem slice_tx (cs : List Nat) (j : Nat) : Txt.slice (tx cs) none (some (j : Int)) = tx (cs.take j) := by
  have hn : ¬ ((j : Int) < 0) := by omega
  have hix : Builtin.Str.strSliceIndices none (some (j : Int)) 1 (tx cs).length = List.range (min j cs.length) := by
    unfold Builtin.Str.strSliceIndices sliceRange
    dsimp only
    rw [tx_len]
    simp only [show (1 : Int) > 0 from by decide, if_true, hn, if_false]
    have e1 : max (0 : Int) (min (j : Int) (cs.length : Int)) = ((min j cs.length : Nat) : Int) := by omega
    rw [e1]
    by_cases h : (0 : Int) < ((min j cs.length : Nat) : Int)
    · rw [if_pos h]
      have e2 : ((((min j cs.length : Nat) : Int) - 0 + 1 - 1) / 1).toNat = min j cs.length := by
        rw [Int.ediv_one]
        omega
      rw [e2]
      have e3 : (fun k : Nat => ((0 : Int) + 1 * (k : Int)).toNat) = id := by
        funext k
        show ((0 : Int) + 1 * (k : Int)).toNat = k
        omega
      rw [e3, List.map_id]
    · rw [if_neg h]
      have : min j cs.length = 0 := by omega
      rw [this]
      rfl
  unfold Txt.slice
  rw [hix, List.length_range, tx_len]
  by_cases h : min j cs.length = cs.length
  · rw [if_pos (by rw [h]; simp)]
    rw [List.take_of_length_le (by omega)]
  · rw [if_neg (by simp [h])]
    unfold tx
    congr 2
    have hfm : ∀ (n : Nat), n ≤ cs.length → (List.range n).filterMap (fun i => cs.toArray[i]?) = cs.take n := by
      intro n
      induction n with
      | zero => intro _; rfl
      | succ n ih =>
        intro hn
        rw [List.range_succ, List.filterMap_append, ih (by omega), List.take_succ, List.filterMap_cons, List.filterMap_nil]
        have : cs.toArray[n]? = cs[n]? := by simp
        rw [this]
        cases cs[n]? <;> rfl
    have := hfm (min j cs.length) (by omega)
    rw [this]
    by_cases hj : j ≤ cs.length
    · rw [show min j cs.length = j by omega]
    · exact absurd (by omega) h
theorem mul_tx (c : Nat) (n : Int) : Txt.mul (tx [c]) n = tx (List.replicate n.toNat c) := by
  have h := mul_one_list c n
  have e : (tx [c]) = ⟨#[c]⟩ := rfl
  rw [e]
  have : ∀ z : Str, z = tx z.cps.toList := fun z => by cases z; simp [tx]
  rw [this (Txt.mul ⟨#[c]⟩ n), h]
theorem append_tx (a b : List Nat) : tx a ++ tx b = tx (a ++ b) := by
  show Str.append _ _ = _
  unfold Str.append tx
  simp
section
variable {K : PySem.W.Frag} {H0 H : Hp} {M : List Addr} {L L' : List (Addr × HO)} {I : List Im} {l P f : Addr} {xs ys : List V} {v y : V} {Q : VK} {R : Hp → Prop} {te th : TE} {σ : St} {i : Int} {cs ds : List Nat} {j c : Nat} {pos : Pos} {qual : Str} {ps : Array Value}
instance go_slS : Go (tSlS te th σ H Q) (te σ H fun x H1 => th σ H1 fun y H2 => rSlS x y H2 Q) := ⟨id⟩
instance go_rslS : Go (rSlS (.str (tx cs)) (.int i) H Q) (Sd (0 ≤ i ∧ cs.length ≤ 1000) (Q (.str (tx (cs.take i.toNat))) H)) := ⟨fun s => ⟨_, i, rfl, rfl, by rw [tx_len]; exact small_line (by have := s.1.2; omega), by
  have := slice_tx cs i.toNat
  rw [show ((i.toNat : Nat) : Int) = i by have := s.1.1; omega] at this
  rw [this]
  exact s.2⟩⟩
instance go_rixS : Go (rIxS (.str (tx cs)) (.int i) H Q) (Sd (0 ≤ i ∧ i < cs.length ∧ cs.length ≤ 1000) (∀ c : Nat, cs[i.toNat]? = some c → Q (.str (tx [c])) H)) := ⟨fun s => by
  obtain ⟨⟨h0, h1, h2⟩, k⟩ := s
  have hl : i.toNat < cs.length := by omega
  refine ⟨tx cs, i, cs[i.toNat], rfl, rfl, by rw [tx_len]; exact small_line (by omega), ?_, k _ (by simp)⟩
  rw [tx_cps]
  obtain ⟨n, rfl⟩ : ∃ n : Nat, i = (n : Int) := ⟨i.toNat, by omega⟩
  exact atI_nat (by simp)⟩
instance go_raddS : Go (rAddS (.str (tx cs)) (.str (tx ds)) H Q) (Sd (cs.length + ds.length ≤ 1000) (Q (.str (tx (cs ++ ds))) H)) := ⟨fun s => ⟨_, _, rfl, rfl, by rw [tx_len, tx_len]; exact small_line (by have := s.1; omega), by rw [append_tx]; exact s.2⟩⟩
instance go_rmulS : Go (rMulS (.str (tx [c])) (.int i) H Q) (Sd (0 ≤ i ∧ i ≤ 1000) (Q (.str (tx (List.replicate i.toNat c))) H)) := ⟨fun s => by
  obtain ⟨⟨h0, h1⟩, k⟩ := s
  refine ⟨_, i, rfl, rfl, ⟨?_, fun a b => ?_, fun a b => ?_⟩, by rw [mul_tx]; exact k⟩
  · rw [decide_eq_false (by omega), decide_eq_false (by omega)]
    rfl
  · rw [tx_len]
    have : (1 : Int) ≤ (2 ^ 63 - 1) / i := by
      rw [Int.le_ediv_iff_mul_le (by omega)]
      omega
    simp only [List.length_cons, List.length_nil]
    omega
  · unfold Builtin.Str.tooLong
    rw [tx_len]
    refine decide_eq_false ?_
    have := small_line (n := 1 * i.toNat) (by omega)
    simp only [List.length_cons, List.length_nil]
    omega⟩
instance go_pop [h : Hat H l (.lst xs)] : Go (rPopA (.ref l) [.int i] H Q) (Sd (0 ≤ i ∧ i < xs.length ∧ xs.length ≤ 1000000) (∀ y : V, xs[i.toNat]? = some y → ∀ H', Off l H H' → H' l = some (.lst (xs.eraseIdx i.toNat)) → Q y H')) := ⟨fun s => by
  obtain ⟨⟨h0, h1, h2⟩, k⟩ := s
  have hl : i.toNat < xs.length := by omega
  exact ⟨l, xs, i, xs[i.toNat], rfl, rfl, h.e, h0, h1, h2, by simp, k _ (by simp)⟩⟩
theorem w_tupD {n i0 i1 i2 i3 : Nat} {a b c d : V} {R : St → Hp → Prop} (hn : n = 4) (hp : SqT K H l [a, b, c, d]) (h : gName i0 a σ H fun σ1 H1 => gName i1 b σ1 H1 fun σ2 H2 => gName i2 c σ2 H2 fun σ3 H3 => gName i3 d σ3 H3 R) : gTup K n (gCons (gName i0) (gCons (gName i1) (gCons (gName i2) (gCons (gName i3) gNil)))) (.ref l) σ H R := by
  subst hn
  exact ⟨l, _, rfl, hp, rfl, _, _, rfl, _, _, rfl, _, _, rfl, _, _, rfl, rfl, h⟩
instance go_tup4 {n i0 i1 i2 i3 : Nat} {a b c d : V} {R : St → Hp → Prop} [h : SqB K H l [a, b, c, d]] : Go (gTup K n (gCons (gName i0) (gCons (gName i1) (gCons (gName i2) (gCons (gName i3) gNil)))) (.ref l) σ H R) (Sd (n = 4) (gName i0 a σ H fun σ1 H1 => gName i1 b σ1 H1 fun σ2 H2 => gName i2 c σ2 H2 fun σ3 H3 => gName i3 d σ3 H3 R)) := ⟨fun s => w_tupD s.1 h.e s.2⟩
theorem TabOk.st : ∀ H H', Tst H H' → TabOk pos qual ps H → TabOk pos qual ps H' := fun H H' t h => by
  rcases h with h | ⟨c', oc, vs, t', e, e1, e2⟩
  · exact .inl h
  · exact .inr ⟨c', oc, vs, t', e, t _ _ rfl e1, e2⟩
theorem IsLam.st : ∀ H H', Tst H H' → IsLam H f → IsLam H' f := fun H H' t h => by
  obtain ⟨a1, a2, a3, a4, a5, a6, a7, a8, a9, a10, a11, a12, a13, a14, e1, e2, r⟩ := h
  exact ⟨a1, a2, a3, a4, a5, a6, a7, a8, a9, a10, a11, a12, a13, a14, t _ _ rfl e1, t _ _ rfl e2, r⟩
end
def isLow (c : Nat) : Bool := decide (97 ≤ c) && decide (c ≤ 122)
def isFig (c : Nat) : Bool := decide (48 ≤ c) && decide (c ≤ 57)
structure NameOk (cs : List Nat) : Prop where
  lo : 1 ≤ cs.length
  hi : cs.length ≤ 8
  hd : ∀ c, cs[0]? = some c → isLow c = true
  all : ∀ c ∈ cs, (isLow c || isFig c) = true
structure Rw where
  nm : List Nat
  st : Nat
  sz : Nat
  pn : Nat
abbrev rowV (r : Rw) : List V := [.str (tx r.nm), .int (r.st : Nat), .int (r.sz : Nat), .int (r.pn : Nat)]
def rowsV (rs : List Rw) : List (List V) := rs.map rowV
theorem rowsV_len (rs : List Rw) : (rowsV rs).length = rs.length := List.length_map ..
structure GoodR (n : Nat) (r : Rw) : Prop where
  nm : NameOk r.nm
  sz : 1 ≤ r.sz
  le : r.st + r.sz ≤ n
def Apart (r s : Rw) : Prop := r.nm ≠ s.nm ∧ (r.st + r.sz ≤ s.st ∨ s.st + s.sz ≤ r.st)
theorem Apart.symm {r s : Rw} (h : Apart r s) : Apart s r := ⟨fun z => h.1 z.symm, h.2.elim .inr .inl⟩
structure Lay (n : Nat) (rs : List Rw) : Prop where
  good : ∀ r ∈ rs, GoodR n r
  ap : rs.Pairwise Apart
  few : rs.length ≤ 40
def Asc (rs : List Rw) : Prop := rs.Pairwise fun r s => r.st + r.sz ≤ s.st
theorem rowsV_at {H : Hp} {rs : List Rw} {ys : List V} {i : Nat} {v : V} (h : TupsAt H ys (rowsV rs)) (e : ys[i]? = some v) : ∃ r q, rs[i]? = some r ∧ v = .ref q ∧ H q = some (.tup (rowV r)) := by
  obtain ⟨r, q, e1, e2, e3⟩ := tups_at h e
  unfold rowsV at e1
  rw [List.getElem?_map] at e1
  cases e4 : rs[i]? with
  | none => rw [e4] at e1; cases e1
  | some w => rw [e4] at e1; cases e1; exact ⟨w, q, rfl, e2, e3⟩
theorem Asc.lt {n : Nat} {rs : List Rw} (h : Asc rs) (g : ∀ r ∈ rs, GoodR n r) : rs.Pairwise fun r s => r.st < s.st := by
  refine List.Pairwise.imp_of_mem ?_ h
  intro a b ha hb hab
  have := (g a ha).sz
  omega
section
variable {X : Cx} {K : PySem.W.Frag} {H : Hp} {Q : VK} {z : Str} {cs : List Nat} {c : Nat} {t0 te : TE} {nt : Nat} {fr : List Nat} {g : TG} {cc : TT} {σ fvs : St} {p f l : Addr} {bs : List Bool} {ys : List V} {rs : List Rw}
instance nx_rowsV {H0 : Hp} {M : List Addr} {L : List (Addr × HO)} {I : List Im} {Z : Addr → Hp → Prop} [F : SH H0 M H L I] : Go (∀ p ys H', New H H' p (.lst ys) → TupsAt H' ys (rowsV rs) → Z p H') (∀ H' p ys, ys.length = rs.length → SH H0 M H' ((p, .lst ys) :: L) (.tps ys (rowsV rs) :: I) → Z p H') := ⟨fun k p ys H' n t => k H' p ys (by rw [t.1, rowsV_len]) (F.newR n t)⟩
end
end L2
namespace L2
open PySem PySem.Spec PyProof.Rows
end L2
namespace L2
open PySem PySem.W PySem.Spec PyProof.Rows
section
variable {n : Nat} {rk : Nat → Int} {α β : Type}
def Pp (n : Nat) (p : Array Nat) : Prop := p.Perm (List.range n).toArray
theorem Pp.size {p : Array Nat} (h : Pp n p) : p.size = n := by
  have := h.size_eq
  simpa using this
theorem Pp.lt {p : Array Nat} (h : Pp n p) {k : Nat} (hk : k < n) : p.getD k 0 < n := by
  have hs := h.size
  have e : p.getD k 0 = p[k]'(by omega) := by rw [Array.getD_eq_getD_getElem?, Array.getElem?_eq_getElem (by omega)]; rfl
  rw [e]
  have := (Array.perm_iff_toList_perm.mp h).mem_iff.mp (show p[k]'(by omega) ∈ p.toList by simp)
  simpa using this
theorem Pp.ne {p : Array Nat} (h : Pp n p) {a b : Nat} (ha : a < n) (hb : b < n) (hab : a ≠ b) : p.getD a 0 ≠ p.getD b 0 := by
  have hs := h.size
  have e : ∀ k (hk : k < n), p.getD k 0 = p.toList[k]'(by simpa [hs] using hk) := fun k hk => by
    rw [Array.getD_eq_getD_getElem?, Array.getElem?_eq_getElem (by omega)]
    rfl
  have nd : p.toList.Nodup := (Array.perm_iff_toList_perm.mp h).nodup_iff.mpr (by simpa using List.nodup_range)
  rw [e a ha, e b hb]
  intro z
  exact hab ((List.getElem_inj nd).mp z)
end
end L2
namespace L2
open PySem PySem.W PySem.Calls PySem.Spec PyProof.Rows
end L2
namespace L2
open PySem PySem.Spec PyProof.Rows PySem.SeqAt
end L2
namespace L2
open PySem PySem.W PySem.Spec PyProof.Rows
section
variable {CX : CXT} {P : Program} {w : World} {K : PySem.W.Frag} {mg : Str → Option Value} {base : Heap} {k m : Nat} {x : Str} {ps : List Str} {sp : Sp} {ds : List Value} {dvs : List V}
def HasDefD (K : PySem.W.Frag) (mg : Str → Option Value) (x : Str) (st : Stmt) (ds : List Value) : Prop :=
  ∃ (f d : Addr) (oc : Value) (od : Option Addr) (kV doc pm : Value) (an : Option Addr) (cdv ct : Value) (osl : Array (Option Value)) (o : Obj) (n : Nat),
    K.lookup f = some ⟨oc, od, .func (PySem.W.fnOf x x (defArgs st) (defBody st) (defScope st) (.ref d) kV doc pm an cdv ct), osl⟩ ∧ PySem.W.codeIn K cdv x = true ∧ PySem.W.keepIn K (.ref f) = true ∧ mg x = some (.ref f) ∧ K.lookup d = some o ∧ o.data = .seq ds.toArray n
structure DefD (P : Program) (w : World) (K : PySem.W.Frag) (mg : Str → Option Value) (base : Heap) (CX : CXT) (k : Nat) (x : Str) (ps : List Str) (sp : Sp) (ds : List Value) : Prop where
  ex : ∃ (f : Addr) (fd : FuncData), FnOk P w K mg base CX k f fd ps sp ∧ mg x = some (.ref f) ∧ PySem.W.keepIn K (.ref f) = true ∧ Binds K fd ps [] ∧ Binds K fd ps ds
theorem DefD.all (D : DefD P w K mg base CX k x ps sp ds) : Def P w K mg base CX k x ps sp :=
  let ⟨f, fd, F, a, b, c, _⟩ := D.ex
  ⟨f, fd, F, a, b, c⟩
end
section
variable {X : Cx}
def dg (n : Nat) : List Nat := (Nat.toDigits 10 n).map Char.toNat
theorem num_dg (n : Nat) : numS (n : Int) = tx (dg n) := by
  have h : ∀ z : Str, z = tx z.cps.toList := fun z => by cases z; simp [tx]
  rw [h (numS (n : Int)), PySem.W.KIN.signs_num]
  rfl
end
end L2
namespace L2
open PySem PySem.Spec PyProof.Rows PySem.SeqAt
class CutA (xs : List V) (lo hi : Option Int) (ys : outParam (List V)) : Prop where
  e : cutV xs lo hi = ys
section
variable {K : PySem.W.Frag} {H : Hp} {Q : VK} {σ : St} {t : TE} {ts : List TE} {a b cs : List Nat} {c n : Nat} {ps : List (List Nat)} {p l q : Addr} {xs ys r : List V} {lo hi : Option Int} {R : Str → Prop} {S : Int → Prop} {v v0 v1 v2 v3 v4 v5 : V} {i : Int} {z : Str} {bb : Bool}
instance go_strN : Go (rStrI [.int (n : Nat)] H Q) (Sd (n < 10 ^ 10) (Q (.str (tx (dg n))) H)) := ⟨fun k => ⟨(n : Int), rfl, by
    have h : Bd 1000 (n : Int) := by
      have := k.1
      constructor <;> omega
    exact log_small h, by rw [num_dg]; exact k.2⟩⟩
instance go_slC [h : SqA K H l xs] [e : CutA xs lo hi ys] : Go (rSlA K (.ref l) lo hi H Q) (∀ p H', New H H' p (.lst ys) → Q (.ref p) H') := ⟨fun k => w_slA h.e (by rw [e.e]; exact k)⟩
instance go_isNi : Go (rIsN (.int i) .non H Q) (Q (.bl false) H) := ⟨fun k => ⟨rfl, k⟩⟩
instance go_isNn : Go (rIsN .non .non H Q) (Q (.bl true) H) := ⟨fun k => ⟨rfl, k⟩⟩
instance go_notNi : Go (rNotN (.int i) .non H Q) (Q (.bl true) H) := ⟨fun k => ⟨rfl, k⟩⟩
instance go_notNn : Go (rNotN .non .non H Q) (Q (.bl false) H) := ⟨fun k => ⟨rfl, k⟩⟩
end
theorem cut_from {xs : List V} {i : Nat} : cutV xs (some (i : Int)) none = xs.drop i := by
  unfold cutV
  rw [HT.sIx_nat]
  show (xs.drop (min i xs.length)).take (xs.length - min i xs.length) = _
  by_cases h : i ≤ xs.length
  · rw [show min i xs.length = i by omega, List.take_of_length_le (by rw [List.length_drop]; omega)]
  · rw [List.drop_of_length_le (by omega), List.drop_of_length_le (by omega)]
    simp
end L2
namespace L2
open PySem PySem.W PySem.Calls PySem.Spec PyProof.Rows
end L2
namespace L2
open PySem PySem.Spec PyProof.Rows PySem.SeqAt
theorem cx_s0 {CX : CXT} {P : Program} {w : World} {K : PySem.W.Frag} {mg : Str → Option Value} {base : Heap} {N : List Str} {qual : Str} {scope : Scope} {f : Addr} {cd : Value} {A : Around} {outer : List Env} {s : Shared} {H : Hp} {E : XK} : (cxOf CX P w K mg base N qual scope f cd A outer s H E).s₀ = s := rfl
def tEX (th : THd) (D : Ends) : St → XK := fun σ cv dx H => ∃ C, cv = .ref C ∧ ∀ a, H a = none → th D C a dx σ (upd H a (excT a C dx))
class ExA (H : Hp) (a : Addr) (C : outParam Addr) (fs : outParam (List (Str × V))) : Prop where
  e : ExcT H a C fs
class ExM (K : PySem.W.Frag) (C d : Addr) (b : outParam Bool) : Prop where
  e : PySem.W.exmOne K (.ref C) (.ref d) = some b
def RaiseG1 (n : Nat) (C : Addr) (H0 : Hp) (E : XK) (f : Str) (vs : List V) (H1 : Hp) : Prop := ∃ v, vs = [v] ∧ ∀ z H', n ≤ z → H1 z = none → Same H1 H' → ExcAt H' z C [(f, v)] → ∃ a dx, V.ref z = .ref a ∧ n ≤ a ∧ H0 a = none ∧ H' a = some (excO a C dx) ∧ E (.ref C) dx (del H' a)
section
variable {K : PySem.W.Frag} {H H0 : Hp} {M : List Addr} {L : List (Addr × HO)} {I : List Im} {Q : VK} {σ : St} {D : Ends} {th rest : THd} {tbE : (St → XK) → TS} {t : TA} {ta : TE} {sp : Sp} {EX : St → XK} {E : XK} {C d a : Addr} {dx : Option Addr} {fs : List (Str × V)} {f g m : Str} {v y : V} {n : Nat} {ts : Addr → TS} {b : Bool}
instance go_tryI : Go (tTry (fun _ EX => tbE EX) th D σ H) (tbE (tEX th D) D σ H) := ⟨fun h _ => h⟩
instance go_raised [F : SH H0 M H L I] : Go (∀ dx H', Same H H' → H' dx = some (dctO dx fs) → tEX th D σ (.ref C) (some dx) H') (∀ (H' : Hp) (a dx : Addr), SH H0 M H' L I → ExcT H' a C fs → th D C a (some dx) σ H') := ⟨fun k dx H' s e => ⟨C, rfl, fun a ha => k _ a dx ((F.same s).same (Same.new ha)) (ExcT.mk e ha)⟩⟩
instance go_raise1I : Go (tRaise C H0 n E (tEx1N n C f t) D σ H) (t σ H fun vs H1 => RaiseG1 n C H0 E f vs H1) := ⟨fun h => h⟩
instance go_rg1 [F : SH H0 [] H L I] : Go (RaiseG1 n C H0 E f [v] H) (∀ dx H2, Same H H2 → H2 dx = some (dctO dx [(f, v)]) → E (.ref C) (some dx) H2) := ⟨fun k => ⟨v, rfl, fun z H' hn hz s e => go_raise (by simp) hn hz (F.sm.free hz) s e k⟩⟩
instance go_exfI : Go (tExFT C ta f σ H Q) (ta σ H fun x H1 => ∃ a fs v, x = .ref a ∧ ExcT H1 a C fs ∧ fs.lookup f = some v ∧ Q v H1) := ⟨id⟩
instance go_exf2 [h : ExA H a C fs] [e : FLk fs f v] {R : V → Prop} : Go (∃ a' fs' v', V.ref a = .ref a' ∧ ExcT H a' C fs' ∧ fs'.lookup f = some v' ∧ R v') (R v) := ⟨fun k => ⟨a, fs, v, rfl, h.e, e.e, k⟩⟩
instance flk0 {r : List (Str × V)} : FLk ((f, v) :: r) f v := ⟨by simp [List.lookup]⟩
instance go_hAs8 {o0 o1 o2 o3 o4 o5 o6 o7 o : Option V} {r : St} [e : ExM K C d true] : Go (hAs K d 8 ts rest D C a dx (o0 :: o1 :: o2 :: o3 :: o4 :: o5 :: o6 :: o7 :: o :: r) H) (ts a (D.forget 8) (o0 :: o1 :: o2 :: o3 :: o4 :: o5 :: o6 :: o7 :: some (.ref a) :: r) H) := ⟨fun h => go_caught e.e h⟩
instance go_fgt8 {o0 o1 o2 o3 o4 o5 o6 o7 o : Option V} {r : St} : Go (Ends.nx (Ends.forget D 8) (o0 :: o1 :: o2 :: o3 :: o4 :: o5 :: o6 :: o7 :: o :: r) H) (Ends.nx D (o0 :: o1 :: o2 :: o3 :: o4 :: o5 :: o6 :: o7 :: none :: r) H) := ⟨fun h => h⟩
end
end L2
namespace L2
open PySem PySem.W PySem.Spec PyProof.Rows
end L2
namespace L2
open PySem PySem.Spec PyProof.Rows
end L2
namespace L2
open PySem PySem.W PySem.Calls PySem.Spec PyProof.Rows
end L2
namespace L2
open PySem PySem.Spec PyProof.Rows PySem.SeqAt
class TyA (K : PySem.W.Frag) (H : Hp) (v : V) (n : outParam String) : Prop where
  e : TyOf K H v (.type n)
class OldT (K : PySem.W.Frag) (H0 : Hp) (M : List Addr) (v : V) (n : outParam String) : Prop where
  e : TyOf K H0 v (.type n)
  n : ∀ a, v = .ref a → a ∉ M
theorem TyOf.kept {K : PySem.W.Frag} {H H' : Hp} {v : V} {t : Value} (h : TyOf K H v t) (k : ∀ a u, v = .ref a → H a = some u → H' a = some u) : TyOf K H' v t := by
  cases h with
  | non => exact .non
  | bl b => exact .bl b
  | int i => exact .int i
  | str x => exact .str x
  | flt x => exact .flt x
  | lst e => exact .lst (k _ _ rfl e)
  | frz e => exact .frz (k _ _ rfl e)
  | tup e => exact .tup (k _ _ rfl e)
  | dK e => exact .dK (k _ _ rfl e)
  | dT e => exact .dT (k _ _ rfl e)
  | ins e a b c d f => exact .ins (k _ _ rfl e) a b c d f
section
variable {K : PySem.W.Frag} {H0 H : Hp} {M : List Addr} {L : List (Addr × HO)} {I : List Im} {v : V} {n : String} {a : Addr} {xs : List V} {b : Bool} {i lo hi : Int} {z : Str} {kvs : List (Key × V)} {Q : VK} {E : XK}
instance ty_non : TyA K H .non "NoneType" := ⟨.non⟩
instance ty_int : TyA K H (.int i) "int" := ⟨.int i⟩
instance (priority := low) ty_old [F : SH H0 M H L I] [h : OldT K H0 M v n] : TyA K H v n := ⟨h.e.kept fun a u e hu => F.fr a u (h.n a e) hu⟩
instance (priority := low) go_isB [t : TyA K H v n] : Go (rIsT K [v, .ty "bool"] H Q) (Q (.bl (isB v)) H) := ⟨fun k => w_is t.e (bt_bool t.e) k⟩
instance (priority := low) go_withinV [t : TyA K H v n] : Go (sp_is_within K [v, .int lo, .int hi] H Q E) (Q (.bl (inB v lo hi)) H) := ⟨u_within t.e⟩
end
class IdV (v : V) : Prop where
  e : idV v = true
class IdL (xs : List V) : Prop where
  e : xs.all idV = true
section
variable {v : V} {xs : List V} {a : Addr} {b : Bool} {i : Int} {z : Str}
instance id_str : IdV (.str z) := ⟨rfl⟩
instance idl_nil : IdL [] := ⟨rfl⟩
instance idl_cons [h : IdV v] [t : IdL xs] : IdL (v :: xs) := ⟨by rw [List.all_cons, h.e, t.e]; rfl⟩
end
def EqVV (x y : V) (b : Bool) : Prop := (x = y ∧ idV x = true ∧ b = true) ∨ ∃ s t, x = .str s ∧ y = .str t ∧ b = (s == t)
theorem EqVV.at {A : Around} {s : Shared} {x y : V} {u v : Value} {b : Bool} (h : EqVV x y b) (ru : RelV x u) (rv : RelV y v) : EqAt A s u v b := by
  rcases h with ⟨rfl, hi, rfl⟩ | ⟨p, q, rfl, rfl, rfl⟩
  · exact same_eqAt hi ru rv
  · obtain ⟨t, rfl⟩ := ru
    obtain ⟨t', rfl⟩ := rv
    exact EqAt.str_str (A := A) (s := s) p t q t'
def allE (e : Nat → Bool) (xs ys : List V) : Bool := (List.range (min xs.length ys.length)).all e && xs.length == ys.length
def rEqT (K : PySem.W.Frag) : R2 := fun x y H Q => ∃ p q xs ys e, x = .ref p ∧ y = .ref q ∧ SqT K H p xs ∧ SqT K H q ys ∧ (∀ j a b, xs[j]? = some a → ys[j]? = some b → EqVV a b (e j)) ∧ Q (.bl (allE e xs ys)) H
section
variable {X : Cx}
theorem eqs_at {A : Around} {s : Shared} {xs ys : List V} {us vs : List Value} {e : Nat → Bool} (ru : Vals xs us) (rv : Vals ys vs) (h : ∀ j a b, xs[j]? = some a → ys[j]? = some b → EqVV a b (e j)) (j : Nat) (h1 : j < us.toArray.size) (h2 : j < vs.toArray.size) : EqAt A s us.toArray[j] vs.toArray[j] (e j) := by
  have l1 : j < us.length := by simpa using h1
  have l2 : j < vs.length := by simpa using h2
  have l3 : j < xs.length := by rw [ru.length]; exact l1
  have l4 : j < ys.length := by rw [rv.length]; exact l2
  obtain ⟨u, eu, qu⟩ := ru.get (show xs[j]? = some xs[j] by simp)
  obtain ⟨v, ev, qv⟩ := rv.get (show ys[j]? = some ys[j] by simp)
  have z1 : us.toArray[j] = u := by
    have : us[j]? = some us[j] := by simp [l1]
    rw [this] at eu
    simpa using eu
  have z2 : vs.toArray[j] = v := by
    have : vs[j]? = some vs[j] := by simp [l2]
    rw [this] at ev
    simpa using ev
  rw [z1, z2]
  exact (h j _ _ (by simp) (by simp)).at qu qv
theorem op_eqT {k : Nat} (hr : Room k X.A) : OpR X (compareOp .Eq) (rEqT X.K) := by
  intro pins s σ H x y v u Q I rx ry h
  obtain ⟨p, q, xs, ys, e, rfl, rfl, hp, hq, he, qq⟩ := h
  cases rx
  cases ry
  obtain ⟨us, ru, pu, _⟩ := I.tuple hp
  obtain ⟨vs, rv, pw, _⟩ := I.tuple hq
  have b := RcAt.tuples (A := X.A) (s := s) (e := e) pu pw (by have := hr.un; omega) (fun j h1 h2 => eqs_at ru rv he j h1 h2)
  refine b X.prog X.w X.xe _ ⟨.bl _, H, I, ?_, qq⟩
  show Value.bool _ = Value.bool _
  congr 1
  unfold allE
  rw [ru.length, rv.length]
  simp
def rEqI (K : PySem.W.Frag) : R2 := fun x y H Q => ∃ p q xs, x = .ref p ∧ y = .ref q ∧ SqL K H p xs ∧ SqL K H q xs ∧ xs.all idV = true ∧ Q (.bl true) H
theorem op_eqI {k : Nat} (hr : Room k X.A) : OpR X (compareOp .Eq) (rEqI X.K) := by
  intro pins s σ H x y v u Q I rx ry h
  obtain ⟨p, q, xs, rfl, rfl, hp, hq, hf, qq⟩ := h
  cases rx
  cases ry
  obtain ⟨us, ru, pu, _⟩ := I.list hp
  obtain ⟨vs, rv, pw, _⟩ := I.list hq
  have hsz : us.toArray.size = vs.toArray.size := by simp [← ru.length, ← rv.length]
  have b := RcAt.lists (A := X.A) (s := s) (e := fun _ => true) pu.isList pw.isList hsz (by have := hr.un; omega) (fun j h1 h2 => eqs_at ru rv (e := fun _ => true) (fun j a b ha hb => by
    rw [ha] at hb
    cases hb
    exact .inl ⟨rfl, List.all_eq_true.mp hf _ (List.mem_of_getElem? ha), rfl⟩) j h1 h2)
  rw [show ((List.range us.toArray.size).all fun _ => true) = true by simp] at b
  exact b X.prog X.w X.xe _ ⟨.bl _, H, I, rfl, qq⟩
end
section
variable {K : PySem.W.Frag} {H : Hp} {Q : VK} {p q : Addr} {xs ys : List V} {s t : Str}
theorem same_all {xs : List V} (h : xs.all idV = true) : ∀ (j : Nat) (a b : V), xs[j]? = some a → xs[j]? = some b → EqVV a b ((fun _ => true) j) := fun j a b ha hb => by
  rw [ha] at hb
  cases hb
  exact .inl ⟨rfl, List.all_eq_true.mp h _ (List.mem_of_getElem? ha), rfl⟩
theorem allE_same {xs : List V} : allE (fun _ => true) xs xs = true := by unfold allE; simp
instance go_eqT1 [h : Hat H p (.tup xs)] [h2 : Hat H q (.tup xs)] [i : IdL xs] : Go (rEqT K (.ref p) (.ref q) H Q) (Q (.bl true) H) := ⟨fun k => ⟨p, q, xs, xs, _, rfl, rfl, SqT.of h.e, SqT.of h2.e, same_all i.e, by rw [allE_same]; exact k⟩⟩
instance go_eqI1 [h : SqA K H p xs] [h2 : SqA K H q xs] [i : IdL xs] : Go (rEqI K (.ref p) (.ref q) H Q) (Q (.bl true) H) := ⟨fun k => ⟨p, q, xs, rfl, rfl, h.e, h2.e, i.e, k⟩⟩
end
end L2
namespace L2
open PySem PySem.W PySem.Spec PyProof.Rows PySem.SeqAt
section
variable {X : Cx}
def rNeE (K : PySem.W.Frag) : R2 := fun x y H Q => ∃ p q xs, x = .ref p ∧ y = .ref q ∧ SqL K H p xs ∧ SqL K H q [] ∧ Q (.bl (!decide (xs = []))) H
def rEqE (K : PySem.W.Frag) : R2 := fun x y H Q => ∃ p q xs, x = .ref p ∧ y = .ref q ∧ SqL K H p xs ∧ SqL K H q [] ∧ Q (.bl (decide (xs = []))) H
theorem op_neE {k : Nat} (hr : Room k X.A) : OpR X (compareOp .NotEq) (rNeE X.K) := by
  intro pins s σ H x y v u Q I rx ry h
  obtain ⟨p, q, xs, rfl, rfl, hp, hq, qq⟩ := h
  cases xs with
  | nil => exact op_neI hr pins s σ H _ _ v u Q I rx ry ⟨p, q, [], rfl, rfl, hp, hq, rfl, qq⟩
  | cons a t =>
    cases rx
    cases ry
    obtain ⟨us, ru, pu, _⟩ := I.list hp
    obtain ⟨vs, rv, pw, _⟩ := I.list hq
    have h1 := ru.length
    have h2 := rv.length
    have b := RcNeAt.lists_lengths (A := X.A) (s := s) pu.isList pw.isList (by simp [← h1, ← h2]) (by have := hr.un; omega)
    exact b X.prog X.w X.xe _ ⟨.bl _, H, I, rfl, qq⟩
theorem op_eqE {k : Nat} (hr : Room k X.A) : OpR X (compareOp .Eq) (rEqE X.K) := by
  intro pins s σ H x y v u Q I rx ry h
  obtain ⟨p, q, xs, rfl, rfl, hp, hq, qq⟩ := h
  cases xs with
  | nil => exact op_eqI hr pins s σ H _ _ v u Q I rx ry ⟨p, q, [], rfl, rfl, hp, hq, rfl, qq⟩
  | cons a t =>
    cases rx
    cases ry
    obtain ⟨us, ru, pu, _⟩ := I.list hp
    obtain ⟨vs, rv, pw, _⟩ := I.list hq
    have h1 := ru.length
    have h2 := rv.length
    have b := RcAt.lists_lengths (A := X.A) (s := s) pu.isList pw.isList (by simp [← h1, ← h2]) (by have := hr.un; omega)
    exact b X.prog X.w X.xe _ ⟨.bl _, H, I, rfl, qq⟩
end
section
variable {K : PySem.W.Frag} {H : Hp} {Q : VK} {σ : St} {p q : Addr} {xs ys : List V} {te th : TE} {cs ds : List Nat} {j i : Int} {nms : List (List Nat)} {b : Bool} {a c : Nat}
instance go_neI1 [h : SqA K H p xs] [h2 : SqA K H q xs] [i : IdL xs] : Go (rNeI K (.ref p) (.ref q) H Q) (Q (.bl false) H) := ⟨fun k => ⟨p, q, xs, rfl, rfl, h.e, h2.e, i.e, k⟩⟩
instance go_neE1 [h : SqA K H p xs] [h2 : Hat H q (.lst [])] : Go (rNeE K (.ref p) (.ref q) H Q) (Q (.bl (!decide (xs = []))) H) := ⟨fun k => ⟨p, q, xs, rfl, rfl, h.e, SqL.of h2.e, k⟩⟩
instance go_eqE1 [h : SqA K H p xs] [h2 : Hat H q (.lst [])] : Go (rEqE K (.ref p) (.ref q) H Q) (Q (.bl (decide (xs = []))) H) := ⟨fun k => ⟨p, q, xs, rfl, rfl, h.e, SqL.of h2.e, k⟩⟩
end
theorem SH.over {H0 H H' : Hp} {M M2 : List Addr} {A R L2 : List (Addr × HO)} {I I2 : List Im} (F : SH H0 M H (A ++ R) I) (G : SH H M2 H' L2 I2) (e : A.map (·.1) = M2) : SH H0 M H' (L2 ++ R) (I2 ++ I) := by
  have nd := F.nd
  rw [List.map_append, e] at nd
  obtain ⟨nd1, nd2, nd3⟩ := List.nodup_append.mp nd
  have inA : ∀ {b}, b ∈ M2 → ∃ c ∈ A, c.1 = b := fun h => by rw [← e] at h; exact List.mem_map.mp h
  have st : Tst H H' := fun q u tu hq => by
    refine G.fr q u (fun hm => ?_) hq
    obtain ⟨c, hc, rfl⟩ := inA hm
    have h1 := F.at' c (List.mem_append_left _ hc)
    have h2 := F.mu c (List.mem_append_left _ hc)
    rw [hq] at h1
    cases h1
    rw [h2] at tu
    cases tu
  have rn : ∀ {c}, c ∈ R → c.1 ∉ M2 := fun hc hm => nd3 _ hm _ (List.mem_map.mpr ⟨_, hc, rfl⟩) rfl
  refine ⟨fun b u nb e0 => ?_, fun f hf => ?_, fun c hc => ?_, ?_, fun c hc => ?_, fun c hc => ?_⟩
  · refine G.fr b u (fun hm => ?_) (F.fr b u nb e0)
    obtain ⟨c, hc, rfl⟩ := inA hm
    rcases F.ch c (List.mem_append_left _ hc) with h | h
    · exact nb h
    · exact h _ u e0 rfl
  · rcases List.mem_append.mp hf with hf | hf
    · exact G.im f hf
    · exact Im.stay st (F.im f hf)
  · rcases List.mem_append.mp hc with hc | hc
    · exact G.at' c hc
    · exact G.fr _ _ (rn hc) (F.at' c (List.mem_append_right _ hc))
  · rw [List.map_append]
    refine List.nodup_append.mpr ⟨G.nd, nd2, fun a ha b hb => ?_⟩
    obtain ⟨c, hc, rfl⟩ := List.mem_map.mp ha
    obtain ⟨d, hd, rfl⟩ := List.mem_map.mp hb
    rcases G.ch c hc with h | h
    · exact fun z => rn hd (z ▸ h)
    · exact fun z => h d.1 _ (F.at' d (List.mem_append_right _ hd)) z.symm
  · rcases List.mem_append.mp hc with hc | hc
    · exact G.mu c hc
    · exact F.mu c (List.mem_append_right _ hc)
  · rcases List.mem_append.mp hc with hc | hc
    · rcases G.ch c hc with h | h
      · obtain ⟨d, hd, ed⟩ := inA h
        rw [← ed]
        exact F.ch d (List.mem_append_left _ hd)
      · by_cases hm : c.1 ∈ M
        · exact .inl hm
        · exact .inr fun b u e0 z => h b u (F.fr b u (by rw [z]; exact hm) e0) z
    · exact F.ch c (List.mem_append_right _ hc)
section
variable {H : Hp} {Q : VK}
instance go_dnew {σ : L2.St} : Go (tDNewK σ H Q) (∀ p H', New H H' p (.dK []) → Q (.ref p) H') := ⟨w_dnew⟩
instance nx_dnew {H0 : Hp} {M : List Addr} {L : List (Addr × HO)} {I : List Im} {Z : Addr → Hp → Prop} [F : SH H0 M H L I] : Go (∀ p H', New H H' p (.dK []) → Z p H') (∀ H' p, SH H0 M H' ((p, .dK []) :: L) I → Z p H') := ⟨fun k p H' n => k H' p (F.newO n rfl)⟩
end
inductive AnyK (H : Hp) : V → Prop
  | flt {v : V} (h : v = .non ∨ (∃ b, v = .bl b) ∨ (∃ i, v = .int i) ∨ ∃ z, v = .str z) : AnyK H v
  | lst {q : Addr} {xs : List V} (e : H q = some (.lst xs)) : AnyK H (.ref q)
  | tup {q : Addr} {xs : List V} (e : H q = some (.tup xs)) : AnyK H (.ref q)
theorem AnyK.ty {H : Hp} {v : V} (h : AnyK H v) (K : PySem.W.Frag) : ∃ n, TyOf K H v (.type n) := by
  cases h with
  | flt h =>
    rcases h with rfl | ⟨b, rfl⟩ | ⟨i, rfl⟩ | ⟨z, rfl⟩
    · exact ⟨_, .non⟩
    · exact ⟨_, .bl b⟩
    · exact ⟨_, .int i⟩
    · exact ⟨_, .str z⟩
  | lst e => exact ⟨_, .lst e⟩
  | tup e => exact ⟨_, .tup e⟩
theorem AnyK.id {H : Hp} {v : V} (h : AnyK H v) : idV v = true := by
  cases h with
  | flt h => rcases h with rfl | ⟨b, rfl⟩ | ⟨i, rfl⟩ | ⟨z, rfl⟩ <;> rfl
  | lst e => rfl
  | tup e => rfl
end L2
namespace L2
open PySem PySem.W PySem.Calls PySem.Spec PyProof.Rows
abbrev swBody (x : Str) (p1 p2 p3 p4 p5 p6 p7 : Pos) (j j2 j3 : Nat) : Expr := .Tuple [.Subscript (.Name x p1) (.Constant (.int 1) j p2) p3, .Subscript (.Name x p4) (.Constant (.int 0) j2 p5) p6] j3 p7
def IsLam2 (H : Hp) (f : Addr) : Prop := ∃ (qual x : Str) (params : Arguments) (p1 p2 p3 p4 p5 p6 p7 : Pos) (j j2 j3 : Nat) (scope : Scope) (pm ctv : Value) (c' : Addr) (oc : Obj) (vs : Array Value) (t : Tok),
  H f = some (.frz (PySem.W.kla_obj "<lambda>" qual params (swBody x p1 p2 p3 p4 p5 p6 p7 j j2 j3) scope [] pm c' ctv) (.own f)) ∧ H c' = some (.frz oc (.own c')) ∧ oc.data = .fields vs ∧ vs[1]? = some (.str qual t) ∧ LamScope x scope ∧
  ∀ q : Addr, bindArgs (PySem.W.kla_fn "<lambda>" qual params (swBody x p1 p2 p3 p4 p5 p6 p7 j j2 j3) scope [] pm (.ref c') ctv) ⟨[.ref q], []⟩ = pure [(x, .ref q)]
section
variable {K : PySem.W.Frag} {H0 H : Hp} {M : List Addr} {L L' : List (Addr × HO)} {I : List Im} {Q : VK} {l f P : Addr} {ys : List V} {ws : List (Nat × Nat)} {pos : Pos} {qual : Str} {ps : Array Value} {σ : St} {R : Hp → Prop}
theorem IsLam2.st : ∀ H H', Tst H H' → IsLam2 H f → IsLam2 H' f := fun H H' t h => by
  obtain ⟨a1, a2, a3, a4, a5, a6, a7, a8, a9, a10, a11, a12, a13, a14, a15, a16, a17, a18, a19, a20, e1, e2, r⟩ := h
  exact ⟨a1, a2, a3, a4, a5, a6, a7, a8, a9, a10, a11, a12, a13, a14, a15, a16, a17, a18, a19, a20, t _ _ rfl e1, t _ _ rfl e2, r⟩
end
end L2
namespace L2
open PySem PySem.W PySem.Spec PyProof.Rows
end L2
namespace L2
open PySem PySem.Spec PyProof.Rows PySem.SeqAt
abbrev flD (v : V) : PyData := pyD (flatDt v)
inductive ThD (H : Hp) : V → PyData → Prop
  | flat {v : V} (h : isFlat v = true) (z : Shm 500 1 (flD v)) : ThD H v (flD v)
  | lst {p : Addr} {vs : List V} (e : H p = some (.lst vs)) (h : ∀ v ∈ vs, isFlat v = true) (z : Shm 500 1 (.list (vs.map flD))) : ThD H (.ref p) (.list (vs.map flD))
  | tup {p : Addr} {vs : List V} (e : H p = some (.tup vs)) (h : ∀ v ∈ vs, isFlat v = true) (z : Shm 500 1 (.tuple (vs.map flD))) : ThD H (.ref p) (.tuple (vs.map flD))
  | dct {p : Addr} (e : H p = some (.dK [])) : ThD H (.ref p) (.dict [])
section
variable {H H' : Hp} {v : V} {d : PyData} {K : PySem.W.Frag}
theorem ThD.ty (h : ThD H v d) : ∃ n, TyOf K H v (.type n) := by
  cases h with
  | flat h z =>
    cases v with
    | non => exact ⟨_, .non⟩
    | bl b => exact ⟨_, .bl b⟩
    | int i => exact ⟨_, .int i⟩
    | str x => exact ⟨_, .str x⟩
    | _ => simp [isFlat] at h
  | lst e h z => exact ⟨_, .lst e⟩
  | tup e h z => exact ⟨_, .tup e⟩
  | dct e => exact ⟨_, .dK e⟩
end
end L2
set_option maxHeartbeats 400000
namespace L2
open PySem PySem.Spec PyProof.Rows PySem.SeqAt
end L2
set_option maxHeartbeats 1000000
namespace L2
open PySem PySem.Spec PyProof.Rows PySem.SeqAt
mutual
def TrH (H : Hp) : Dt → V → Prop
  | .non, v => v = .non
  | .bl b, v => v = .bl b
  | .int i, v => v = .int i
  | .str x, v => v = .str x
  | .lst ds, v => ∃ p xs, v = .ref p ∧ H p = some (.lst xs) ∧ TrsH H ds xs
  | .tup ds, v => ∃ p xs, v = .ref p ∧ H p = some (.tup xs) ∧ TrsH H ds xs
def TrsH (H : Hp) : List Dt → List V → Prop
  | [], xs => xs = []
  | d :: ds, xs => ∃ x r, xs = x :: r ∧ TrH H d x ∧ TrsH H ds r
end
theorem TrsH.len {H : Hp} : ∀ {ds : List Dt} {xs : List V}, TrsH H ds xs → xs.length = ds.length
  | [], xs, h => by simp only [TrsH] at h; rw [h]; rfl
  | d :: ds, xs, h => by
    simp only [TrsH] at h
    obtain ⟨x, r, rfl, h1, h2⟩ := h
    rw [List.length_cons, List.length_cons, h2.len]
theorem TrsH.at {H : Hp} : ∀ {ds : List Dt} {xs : List V}, TrsH H ds xs → ∀ {i : Nat} {v : V}, xs[i]? = some v → ∃ d, ds[i]? = some d ∧ TrH H d v
  | [], xs, h, i, v, e => by simp only [TrsH] at h; rw [h] at e; cases e
  | d :: ds, xs, h, i, v, e => by
    simp only [TrsH] at h
    obtain ⟨x, r, rfl, h1, h2⟩ := h
    cases i with
    | zero => cases e; exact ⟨d, rfl, h1⟩
    | succ i => exact h2.at (i := i) e
theorem TrsH.of {H : Hp} : ∀ {ds : List Dt} {xs : List V}, xs.length = ds.length → (∀ (i : Nat) (v : V), xs[i]? = some v → ∃ d, ds[i]? = some d ∧ TrH H d v) → TrsH H ds xs
  | [], xs, hl, _ => by simp only [TrsH]; exact List.eq_nil_of_length_eq_zero hl
  | d :: ds, [], hl, _ => by cases hl
  | d :: ds, x :: r, hl, h => by
    simp only [TrsH]
    refine ⟨x, r, rfl, ?_, TrsH.of (by simpa using hl) fun i v e => h (i + 1) v e⟩
    obtain ⟨d', e, t⟩ := h 0 x rfl
    cases e
    exact t
mutual
def widD : Dt → Prop
  | .lst ds => ds.length ≤ 1000 ∧ widDs ds
  | .tup ds => ds.length ≤ 1000 ∧ widDs ds
  | _ => True
def widDs : List Dt → Prop
  | [] => True
  | d :: ds => widD d ∧ widDs ds
end
section
variable {H : Hp} {ds es : List Dt} {xs ys : List V}
theorem TrsH.append : ∀ {ds : List Dt} {xs : List V}, TrsH H ds xs → TrsH H es ys → TrsH H (ds ++ es) (xs ++ ys)
  | [], xs, h, h2 => by simp only [TrsH] at h; rw [h]; exact h2
  | d :: ds, xs, h, h2 => by
    simp only [TrsH] at h
    obtain ⟨x, r, rfl, a, b⟩ := h
    simp only [List.cons_append, TrsH]
    exact ⟨x, r ++ ys, rfl, a, b.append h2⟩
theorem TrsH.take (h : TrsH H ds xs) (n : Nat) : TrsH H (ds.take n) (xs.take n) := TrsH.of (by rw [List.length_take, List.length_take, h.len]) fun i v e => by
  rw [List.getElem?_take] at e ⊢
  by_cases hi : i < n
  · rw [if_pos hi] at e ⊢
    exact h.at e
  · rw [if_neg hi] at e
    cases e
theorem TrsH.drop (h : TrsH H ds xs) (n : Nat) : TrsH H (ds.drop n) (xs.drop n) := TrsH.of (by rw [List.length_drop, List.length_drop, h.len]) fun i v e => by
  rw [List.getElem?_drop] at e ⊢
  exact h.at e
theorem TrsH.one {d : Dt} {v : V} (h : TrH H d v) : TrsH H [d] [v] := by
  simp only [TrsH]
  exact ⟨v, [], rfl, h, rfl⟩
theorem TrH.flat {v : V} (h : isFlat v = true) : TrH H (flatDt v) v := by
  cases v <;> simp [isFlat] at h <;> simp [flatDt, TrH]
theorem TrH.lst {p : Addr} (h : H p = some (.lst xs)) (t : TrsH H ds xs) : TrH H (.lst ds) (.ref p) := by
  simp only [TrH]
  exact ⟨p, xs, rfl, h, t⟩
theorem TrH.tup {p : Addr} (h : H p = some (.tup xs)) (t : TrsH H ds xs) : TrH H (.tup ds) (.ref p) := by
  simp only [TrH]
  exact ⟨p, xs, rfl, h, t⟩
end
def Sm (n : Nat) (ds : List Dt) : Prop := ∀ d ∈ ds, depD d ≤ n ∧ widD d
theorem Sm.append {n : Nat} {ds es : List Dt} (h : Sm n ds) (h2 : Sm n es) : Sm n (ds ++ es) := fun d hd => (List.mem_append.mp hd).elim (h d) (h2 d)
theorem Sm.take {n : Nat} {ds : List Dt} (h : Sm n ds) (k : Nat) : Sm n (ds.take k) := fun d hd => h d (List.mem_of_mem_take hd)
theorem Sm.drop {n : Nat} {ds : List Dt} (h : Sm n ds) (k : Nat) : Sm n (ds.drop k) := fun d hd => h d (List.mem_of_mem_drop hd)
theorem Sm.one {n : Nat} {d : Dt} (h : depD d ≤ n) (w : widD d) : Sm n [d] := fun e he => by rw [List.mem_singleton.mp he]; exact ⟨h, w⟩
end L2
set_option maxHeartbeats 4000000
namespace L2
open PySem PySem.Spec PyProof.Rows PySem.SeqAt
end L2
namespace L2
open PySem PySem.W PySem.Spec PyProof.Rows
section
variable {P : Program} {w : World} {K : PySem.W.Frag} {mg : Str → Option Value} {base : Heap} {k : Nat} {x : Str} {ps : List Str} {sp : Sp} {d1 d2 : Value}
structure DefD2 (P : Program) (w : World) (K : PySem.W.Frag) (mg : Str → Option Value) (base : Heap) (CX : CXT) (k : Nat) (x : Str) (ps : List Str) (sp : Sp) (d1 d2 : Value) : Prop where
  ex : ∃ (f : Addr) (fd : FuncData), FnOk P w K mg base CX k f fd ps sp ∧ mg x = some (.ref f) ∧ PySem.W.keepIn K (.ref f) = true ∧ Binds K fd ps [] ∧ Binds K fd ps [d2] ∧ Binds K fd ps [d1, d2]
theorem def_ofX2 {st : Stmt} {N : List Str} (h : HasDefD K mg x st [d1, d2]) (S : FnScope N ps (defScope st)) (len : ∀ vs H Q E, sp vs H Q E → vs.length = ps.length)
    (hb : ∀ (tl : List Value), tl = [] ∨ tl = [d2] ∨ tl = [d1, d2] → ∀ (d : Addr) (kV doc pm : Value) (an : Option Addr) (cdv ct : Value) (us : List Value), (us ++ tl).length = ps.length → ∃ c : Option (Array Value) → Sem (List (Str × Value)), bindArgs (PySem.W.fnOf x x (defArgs st) (defBody st) (defScope st) (.ref d) kV doc pm an cdv ct) ⟨us, []⟩ = seqItems? (.ref d) >>= c ∧ c (some [d1, d2].toArray) = pure (ps.zip (us ++ tl)))
    (hbody : ∀ (f : Addr) (cdv : Value) (A : Around) (outer : List Env) (s : Shared) (H : Hp) (vs : List V) (Q : VK) (E : XK), Room k (A.deeper (envOfC x (defScope st) s.heap.objs.size f cdv)) → sp vs H Q E →
      ∃ t, PSs (cxOf (CX1 P w) P w K mg base N x (defScope st) f cdv A outer s H E) (defBody st) t ∧ t { nx := fun _ H' => Q .non H', rt := Q } (start N vs) H) : DefD2 P w K mg base (CX1 P w) (k + 1) x ps sp d1 d2 := by
  obtain ⟨f, d, oc, od, kV, doc, pm, an, cdv, ct, osl, o, n, lk, hcd, kp, hm, ld, hdt⟩ := h
  have hB : ∀ tl, tl = [] ∨ tl = [d2] ∨ tl = [d1, d2] → Binds K (PySem.W.fnOf x x (defArgs st) (defBody st) (defScope st) (.ref d) kV doc pm an cdv ct) ps tl := fun tl ht s us kin hl => by
    obtain ⟨c, h1, h2⟩ := hb tl ht d kV doc pm an cdv ct us hl
    exact BindsTo.of_defaults rfl (kin _ _ ld) hdt h1 h2
  refine ⟨f, PySem.W.fnOf x x (defArgs st) (defBody st) (defScope st) (.ref d) kV doc pm an cdv ct, ?_, hm, kp, hB _ (.inl rfl), hB _ (.inr (.inl rfl)), hB _ (.inr (.inr rfl))⟩
  exact fn_of lk hcd S len fun A outer s H vs Q E hr hsp => hbody f cdv A outer s H vs Q E hr hsp
end
def tCallxD (EX : St → XK) (sp : Sp) (dvs : List V) (t : TA) : TE := fun σ H Q => t σ H fun vs H1 => sp (vs ++ dvs) H1 Q (EX σ)
section
variable {X : Cx} {pins : List (Addr × Obj)} {EX : St → XK} {k m : Nat} {x : Str} {ps : List Str} {sp : Sp} {p pos : Pos} {e : Expr} {es : List Expr} {t : TA} {d1 d2 : Value} {dvs : List V} {dus : List Value}
theorem pe_defxB {f : Addr} {fd : FuncData} (F : FnOk X.prog X.w X.K X.mg X.base (CX1 X.prog X.w) k f fd ps sp) (hm : X.mg x = some (.ref f)) (kp : PySem.W.keepIn X.K (.ref f) = true) (hb : Binds X.K fd ps dus) (rd : Vals dvs dus) (hr : Room m X.A) (ha : PA (X.tr pins EX) (e :: es) t) (hk : k ≤ m) (hg : Gl (X.tr pins EX) x)
    (hdb : (x == ("__debug__" : Str)) = false) (he : starEach (e :: es) X.env = (false, eval e X.env) :: starEach es X.env) (hpl : (backTo pos (starEach es X.env)).any (·.1) = false) :
    PE (X.tr pins EX) (.Call (.Name x p) (e :: es) [] pos) (tCallxD EX sp dvs t) := by
  intro pins' s σ H Q I h
  refine wpAny_Call_Name_kw (ld_glob I hg hm ?_ hdb)
  refine PySem.W.callWith_K (h₀ := X.base) I.ok.mod.kin kp (thn (ha pos pins' s σ H _ I h) fun us s1 ⟨vs, H1, I1, r, q⟩ => ⟨I1.kIn, ?_⟩) he hpl
  have r2 := r.append rd
  have hl : (us ++ dus).length = ps.length := by rw [← r2.length]; exact F.len _ _ _ _ q
  refine wpAny_call (codeAny_mono (F.run X.A X.stack s1 H1 ⟨us, []⟩ (us ++ dus) (vs ++ dvs) Q (EX σ) (hr.mono hk) I1.env0 (hb s1 us I1.kIn hl) r2 q) fun r s' hq => ?_)
  cases r with
  | error e => exact ⟨pins', σ, H1, s1, I1.unwish, hq⟩
  | ok fl =>
    cases fl with
    | ret u => exact I1.after hq
    | next => exact False.elim hq
    | brk => exact False.elim hq
    | cont => exact False.elim hq
theorem pe_defx0 (D : DefD2 X.prog X.w X.K X.mg X.base (CX1 X.prog X.w) k x ps sp d1 d2) (hr : Room m X.A) (ha : PA (X.tr pins EX) (e :: es) t) (hk : k ≤ m := by decide) (hg : Gl (X.tr pins EX) x := by rfl)
    (hdb : (x == ("__debug__" : Str)) = false := by decide) (he : starEach (e :: es) X.env = (false, eval e X.env) :: starEach es X.env := by rfl) (hpl : (backTo pos (starEach es X.env)).any (·.1) = false := by rfl) :
    PE (X.tr pins EX) (.Call (.Name x p) (e :: es) [] pos) (tCallxD EX sp [] t) :=
  let ⟨_, _, F, hm, kp, b, _⟩ := D.ex
  pe_defxB F hm kp b .nil hr ha hk hg hdb he hpl
theorem pe_defx1 (D : DefD2 X.prog X.w X.K X.mg X.base (CX1 X.prog X.w) k x ps sp d1 d2) (v2 : V) (r2 : RelV v2 d2) (hr : Room m X.A) (ha : PA (X.tr pins EX) (e :: es) t) (hk : k ≤ m := by decide) (hg : Gl (X.tr pins EX) x := by rfl)
    (hdb : (x == ("__debug__" : Str)) = false := by decide) (he : starEach (e :: es) X.env = (false, eval e X.env) :: starEach es X.env := by rfl) (hpl : (backTo pos (starEach es X.env)).any (·.1) = false := by rfl) :
    PE (X.tr pins EX) (.Call (.Name x p) (e :: es) [] pos) (tCallxD EX sp [v2] t) :=
  let ⟨_, _, F, hm, kp, _, b, _⟩ := D.ex
  pe_defxB F hm kp b (.cons r2 .nil) hr ha hk hg hdb he hpl
theorem pe_defx2 (D : DefD2 X.prog X.w X.K X.mg X.base (CX1 X.prog X.w) k x ps sp d1 d2) (v1 v2 : V) (r1 : RelV v1 d1) (r2 : RelV v2 d2) (hr : Room m X.A) (ha : PA (X.tr pins EX) (e :: es) t) (hk : k ≤ m := by decide) (hg : Gl (X.tr pins EX) x := by rfl)
    (hdb : (x == ("__debug__" : Str)) = false := by decide) (he : starEach (e :: es) X.env = (false, eval e X.env) :: starEach es X.env := by rfl) (hpl : (backTo pos (starEach es X.env)).any (·.1) = false := by rfl) :
    PE (X.tr pins EX) (.Call (.Name x p) (e :: es) [] pos) (tCallxD EX sp [v1, v2] t) :=
  let ⟨_, _, F, hm, kp, _, _, b⟩ := D.ex
  pe_defxB F hm kp b (.cons r1 (.cons r2 .nil)) hr ha hk hg hdb he hpl
instance go_callxD {σ : St} {H : Hp} {Q : VK} : Go (tCallxD EX sp dvs t σ H Q) (t σ H fun vs H1 => sp (vs ++ dvs) H1 Q (EX σ)) := ⟨fun h => h⟩
end
def ForT (K : PySem.W.Frag) (a : Addr) (g : TG) (tb : TS) (D : Ends) (σ : St) (H : Hp) : Prop := ∃ W : Nat → Nat → St → Hp → Prop, (∃ m, W 0 m σ H) ∧ ∀ i m σ H, W i m σ H →
  ((Itt K a).stop i H ∧ D.nx σ H) ∨ ((Itt K a).go i H ∧ ∃ N : St → Hp → Prop, (∀ σ' H', N σ' H' → ∃ m', m' < m ∧ W (i + 1) m' σ' H') ∧ ∀ x H', (Itt K a).yld i H x H' → g x σ H' fun σ2 H2 => tb { D with nx := N, ct := N, bk := D.nx } σ2 H2)
theorem forT_by {K : PySem.W.Frag} {a : Addr} {xs : List V} {g : TG} {tb : TS} {D : Ends} {σ : St} {H : Hp} (Pv : Nat → St → Hp → Prop) (h0 : Pv 0 σ H) (hl : ∀ i σ H, i ≤ xs.length → Pv i σ H → SqT K H a xs)
    (hs : ∀ i x σ H, xs[i]? = some x → Pv i σ H → g x σ H fun σ2 H2 => tb { D with nx := Pv (i + 1), ct := Pv (i + 1), bk := D.nx } σ2 H2) (hd : ∀ σ H, Pv xs.length σ H → D.nx σ H) : ForT K a g tb D σ H := for_tup Pv h0 hl hs hd
instance go_forT {K : PySem.W.Frag} {te : TE} {g : TG} {tb : TS} {D : Ends} {σ : St} {H : Hp} : Go (tFor (iTup K te) g tb D σ H) (te σ H fun x H1 => ∃ a, x = .ref a ∧ (∃ xs, SqT K H1 a xs) ∧ ForT K a g tb D σ H1) := ⟨fun h => h⟩
instance go_forTa {K : PySem.W.Frag} {g : TG} {tb : TS} {D : Ends} {σ : St} {H : Hp} {l : Addr} {xs : List V} [h : Hat H l (.tup xs)] : Go (∃ a, V.ref l = .ref a ∧ (∃ xs, SqT K H a xs) ∧ ForT K a g tb D σ H) (ForT K l g tb D σ H) := ⟨fun k => ⟨l, rfl, ⟨xs, SqT.of h.e⟩, k⟩⟩
theorem rng_fit {x : Int} (h1 : -2000000 ≤ x) (h2 : x ≤ 2000000) : Builtin.Range.rangeFitsLong x = true := by
  unfold Builtin.Range.rangeFitsLong
  rw [decide_eq_true (by omega), decide_eq_true (by omega)]
  rfl
theorem rng_size {j : Int} (h : 0 ≤ j) : Builtin.Range.rangeSize 0 j 1 = j := by
  unfold Builtin.Range.rangeSize
  rw [if_pos (by decide)]
  split
  · rw [Int.ediv_one]; omega
  · omega
section
variable {prog : Program} {w : World} {A : Around} {E : Value → Shared → Prop} {s : Shared}
def rriObj (j : Int) : Obj := { cls := .type "range_iterator", data := .fields #[rawInt (j - 1), rawInt j, rawInt (-1)] }
theorem call_range_rev {r : Addr} {j : Int} {t u v : Tok} {Q : Value → Shared → Prop} (hr : IsRange s.heap r 0 j 1 t u v) (h0 : 0 ≤ j) (h1 : j ≤ 1000000)
    (h : Q (.ref s.heap.objs.size) { s with heap := s.heap.push (rriObj j) }) : wpAny (model prog w) A (call (.builtin "range.__reversed__") [.ref r]) Q E s := by
  have hT : s.TypeIs (.ref r) "range" := ⟨_, hr, rfl⟩
  refine wpAny_call_entry F.slot_range_reversed hT F.entry_range_reversed ?_ (F.args_range_reversed_1 _)
  unfold Builtin.«range.__reversed__»
  refine wpAny_bind (wpAny_of_eq (a := Value.ref r) rfl ?_)
  unfold Builtin.Range.rangeFields
  refine wpAny_bind ?_
  refine wpAny_bind (wpAny_field hr rfl (x := .int 0 t) rfl ?_)
  refine wpAny_bind (wpAny_of_eq (a := some (0 : Int)) rfl ?_)
  refine wpAny_bind (wpAny_field hr rfl (x := .int j u) rfl ?_)
  refine wpAny_bind (wpAny_of_eq (a := some j) rfl ?_)
  refine wpAny_bind (wpAny_field hr rfl (x := .int 1 v) rfl ?_)
  refine wpAny_bind (wpAny_of_eq (a := some (1 : Int)) rfl ?_)
  refine wpAny_pure ?_
  dsimp only
  rw [rng_size h0, rng_fit (x := 0) (by decide) (by decide), rng_fit (x := j) (by omega) (by omega), rng_fit (x := 1) (by decide) (by decide), rng_fit (x := -1) (by decide) (by decide), rng_fit (x := 0 - 1) (by decide) (by decide)]
  rw [if_neg (by decide)]
  have e1 : (0 + (j - 1) * 1 : Int) = j - 1 := by omega
  rw [e1]
  exact wpAny_bind (wpAny_newObj_type (wpAny_pure ⟨_, rfl, h⟩))
theorem sub_ri_reversed : isSubtype (.type "range_iterator") (.type "reversed") = pure false := by rw [isSubtype_type]; kernel_rfl
theorem code_rev_range {r : Addr} {j : Int} {t u v : Tok} {Q₁ : Value → Shared → Prop} (hr : IsRange s.heap r 0 j 1 t u v) (h0 : 0 ≤ j) (h1 : j ≤ 1000000)
    (h : Q₁ (.ref s.heap.objs.size) { s with heap := s.heap.push (rriObj j) }) :
    codeAny (model prog w) A (.call (.builtin "reversed.__new__") ⟨[.type "reversed", .ref r], []⟩) (wants Q₁ E) s := by
  have hT : s.TypeIs (.ref r) "range" := ⟨_, hr, rfl⟩
  refine codeAny_of_tree ?_
  show wpAny _ A.in1 (do checkBuiltinCall "reversed.__new__" ⟨[.type "reversed", .ref r], []⟩; again (.builtin "reversed.__new__" ⟨[.type "reversed", .ref r], []⟩)) _ _ s
  refine wpAny_bind (wpAny_of_eq (F.newCall_reversed_1 _) (wpAny_pure ⟨plainId_quiet F.plain_reversed_new _, codeAny_builtin F.entry_reversed_new ?_⟩))
  rw [Around.under_plainId F.plain_reversed_new _]
  unfold Builtin.«reversed.__new__»
  refine wpAny_bind (wpAny_of_eq (newClass_reversed _) ?_)
  try dsimp only
  refine wpAny_bind (wpAny_of_eq (a := ()) (by first | rfl | kernel_rfl) ?_)
  refine wpAny_bind (wpAny_of_eq (a := ()) (by first | rfl | kernel_rfl) ?_)
  try dsimp only
  refine wpAny_bind (wpAny_specialOf hT F.slot_range_reversed.lookup ?_)
  try dsimp only
  refine wpAny_bind (wpAny_of_eq (F.slot_range_reversed.bind _) ?_)
  try dsimp only
  first
  | rw [if_neg (show ¬ ((Value.builtin "range.__reversed__" == Value.none) = true) from Bool.false_ne_true)]
  | (show wpAny _ _ (if (Value.builtin "range.__reversed__" == Value.none) = true then _ else _) _ _ _; rw [if_neg (show ¬ ((Value.builtin "range.__reversed__" == Value.none) = true) from Bool.false_ne_true)])
  refine wpAny_bind (wpAny_rule ?_)
  refine wpAny_bind (m := runValue (.call (.builtin "range.__reversed__") ⟨[.ref r], []⟩)) (show wpAny _ _ (call (.builtin "range.__reversed__") [.ref r]) _ _ _ from call_range_rev hr h0 h1 ?_)
  first
  | exact wpAny_pure h
  | exact wpAny_bind (wpAny_pure (wpAny_pure h))
theorem call_reversed_range {r : Addr} {j : Int} {t u v : Tok} {Q : Value → Shared → Prop} (hr : IsRange s.heap r 0 j 1 t u v) (h0 : 0 ≤ j) (h1 : j ≤ 1000000)
    (h : Q (.ref s.heap.objs.size) { s with heap := s.heap.push (rriObj j) }) : wpAny (model prog w) A (call (.type "reversed") [.ref r]) Q E s := by
  refine callType_other (U := "range_iterator") (Q₁ := fun obj s₁ => obj = .ref s.heap.objs.size ∧ s₁ = { s with heap := s.heap.push (rriObj j) }) (by decide +kernel) F.create_reversed ⟨_, _, F.mro_reversed⟩ F.made_reversed sub_ri_reversed (F.typeCall_reversed_1 _) (code_rev_range hr h0 h1 ⟨rfl, rfl⟩) ?_
  rintro obj s₁ ⟨rfl, rfl⟩
  exact ⟨⟨_, Heap.get?_push_size _ rfl, rfl⟩, h⟩
end
section
variable {X : Cx} {tg : Expr}
def iRevR (ta : TA) : TI := fun σ H R => ta σ H fun vs H1 => ∃ j : Int, vs = [.int j] ∧ (0 ≤ j ∧ j ≤ 1000000) ∧ R (Itq (j - 1) (-1) j.toNat) H1
theorem pi_revR {a : Expr} {ta : TA} {p p2 pos pos2 : Pos} (hg : Gl X "reversed") (hm : X.mg "reversed" = none) (hg2 : Gl X "range") (hm2 : X.mg "range" = none) (ha : PA X [a] ta)
    (hs : starEach [.Call (.Name "range" p2) [a] [] pos2] X.env = [(false, eval (.Call (.Name "range" p2) [a] [] pos2) X.env)] := by rfl) (hs2 : starEach [a] X.env = [(false, eval a X.env)] := by rfl) :
    PI X tg (.Call (.Name "reversed" p) [.Call (.Name "range" p2) [a] [] pos2] [] pos) (iRevR ta) := by
  intro pins s σ H R I h
  refine Call_ (ld_blt I hg hm boot_reversed (PyProof.Rows.callWith_type1 ?_ hs rfl))
  rw [hs]
  refine Calls.spliced_cons ?_
  refine Call_ (ld_blt I hg2 hm2 boot_range (PyProof.Rows.callWith_type1 (thn (ha pos2 pins s σ H _ I h) fun us s1 ⟨vs, H1, I1, r1, q1⟩ => ?_) hs2 rfl))
  obtain ⟨j, e, ⟨h0, h1⟩, q⟩ := q1
  subst e
  obtain ⟨u, rfl, r⟩ := vals1 r1
  obtain ⟨t, rfl⟩ := r
  refine call_range_1 (Calls.spliced_nil ?_)
  refine call_reversed_range (IsRange.new ..) h0 h1 ?_
  dsimp only
  generalize hh : s1.heap.push { cls := .type "range", data := .fields #[.int 0 s1.toks, .int j t, .int 1 (s1.toks + 1)] } = hp
  have I2 : Inv X pins σ H1 { s1 with heap := hp, toks := s1.toks + 1 + 1 } := by
    rw [← hh]
    exact I1.kept fun b o e => Heap.get?_push_of_some _ e
  have g : IsRangeIter (hp.push (rriObj j)) hp.objs.size (j - 1) j (-1) := Heap.get?_push_size _ rfl
  refine wpAny_pyIter_rangeiter g ?_
  refine ⟨hp.objs.size, [hp.objs.size], _, _, H1, rfl, I2.kept (t' := s1.toks + 1 + 1) fun b o e => Heap.get?_push_of_some _ e, turn_steps _ (j - 1) (-1) j.toNat, ?_, fun b hb => ?_, q⟩
  · show IsRangeIter _ _ (j - 1 + ((0 : Nat) : Int) * (-1)) (((j.toNat : Nat) : Int) - ((0 : Nat) : Int)) (-1)
    rw [show j - 1 + ((0 : Nat) : Int) * (-1) = j - 1 by simp, show ((j.toNat : Nat) : Int) - ((0 : Nat) : Int) = j by omega]
    exact g
  · rw [List.mem_singleton.mp hb]
    exact I2.fpOk (Nat.le_refl _) (I2.hok.fresh (Nat.le_refl _))
end
def stepsV (lo st : Int) (n : Nat) : List V := (List.range n).map fun i => V.int (lo + (i : Nat) * st)
theorem items_steps {lo st : Int} {n : Nat} : ItemsOf (Itq lo st n) (stepsV lo st n) (fun _ => True) :=
  ⟨fun i H _ hi => by show i < n; simpa [stepsV] using hi, fun i H x H' _ hi y => ⟨y.1, by
    have hi : i < n := by simpa [stepsV] using hi
    rw [y.2]; simp [stepsV, hi]⟩, fun H _ => by show n ≤ _; simp [stepsV]⟩
theorem tups_stT {H1 H2 : Hp} {ys : List V} {rows : List (List V)} (s : ∀ q u, H1 q = some (.tup u) → H2 q = some (.tup u)) (t : TupsAt H1 ys rows) : TupsAt H2 ys rows := ⟨t.1, fun j r e => let ⟨q, a, b⟩ := t.2 j r e; ⟨q, a, s _ _ b⟩⟩
theorem comp_QT {J : It} {σ fvs : L2.St} {fr : List Nat} {te : TE} {H : Hp} {Q : VK} {vs : List V} (it : ItemsOf J vs (fun _ => True)) (g : Nat → List V) (hz : vs.length ≤ 1000000) (hf : (fr.map fun i => (σ[i]?).getD none) = fvs)
    (turnE : ∀ (i : Nat) (v : V) (H' : Hp) (R : VK), vs[i]? = some v → Same H H' → (∀ q H2, Same H' H2 → H2 q = some (.tup (g i)) → R (.ref q) H2) → te (some v :: fvs) H' R)
    (k : ∀ l zs H', New H H' l (.lst zs) → TupsAt H' zs ((List.range vs.length).map g) → Q (.ref l) H') : CompAll J 1 fr (gName 0) tTrue te σ H Q := by
  intro acc hacc
  subst hf
  have nacc : ∀ b u, H b = some u → b ≠ acc := fun b u e => ne_of_none e hacc
  have n0 : New H (upd H acc (.lst [])) acc (.lst []) := .mk' hacc
  refine comp_by it (fun i ys H' => H' acc = some (.lst ys) ∧ Same H H' ∧ ys.length ≤ i ∧ TupsAt H' ys ((List.range i).map g)) ⟨n0.e, n0.s, Nat.le_refl _, TupsAt.nil⟩ (fun i ys H' _ h => ⟨trivial, h.1⟩) ?_ ?_
  · rintro i x tv ys H' hx hi ⟨ha, hs, hl, hg⟩ htv
    obtain ⟨t0, rfl⟩ : ∃ a, tv = [a] := List.length_eq_one_iff.mp htv
    refine wn0 ?_
    refine turnE i x H' _ hx hs fun q H3 s3 e3 => ⟨Nat.lt_of_le_of_lt hl (Nat.lt_of_lt_of_le hi (small_line hz)), s3 _ _ ha, CompW.next (tv := [some x]) hi ⟨upd_same, fun b u e => ?_, by rw [List.length_append, List.length_singleton]; omega, ?_⟩ rfl⟩
    · rw [upd_ne (nacc b u e)]
      exact s3 _ _ (hs _ _ e)
    · have e4 : H3 acc = some (.lst ys) := s3 _ _ ha
      have up : ∀ q' u, H3 q' = some (.tup u) → upd H3 acc (.lst (ys ++ [.ref q])) q' = some (.tup u) := fun q' u e => by
        rw [upd_ne (fun z => by rw [z, e4] at e; cases e)]
        exact e
      rw [List.range_succ, List.map_append, List.map_cons, List.map_nil]
      exact TupsAt.snoc (tups_stT up (tups_stT (fun q u e => s3 _ _ e) hg)) (up _ _ e3)
  · rintro ys H' ⟨ha, hs, _, hg⟩
    exact k acc ys H' ⟨hs, ha, nacc⟩ hg
instance go_compRv {σ : L2.St} {H : Hp} {Q : VK} {tr : TA} {nt : Nat} {fr : List Nat} {g : TG} {c : TT} {te : TE} : Go (tComp (iRevR tr) nt fr g c te σ H Q) (tr σ H fun vs H1 => ∃ j : Int, vs = [.int j] ∧ (0 ≤ j ∧ j ≤ 1000000) ∧ CompAll (Itq (j - 1) (-1) j.toNat) nt fr g c te σ H1 Q) := ⟨id⟩
end L2
namespace K63
open PySem L2 PyProof.Rows
def top (i : Nat) : Stmt := PySem.Challenge.pw_slideroom_k63_whole_broken_off_and_gone.main.body.getD i (.Pass ⟨0, 0, 0, 0⟩)
abbrev s_is_whole : Stmt := top 4
theorem sc_is_whole : FnScope ["thing"] ["thing"] (defScope s_is_whole) := ⟨rfl, rfl, rfl, by decide +kernel, rfl, by decide +kernel, by decide +kernel⟩
abbrev s_is_within : Stmt := top 5
theorem sc_is_within : FnScope ["thing", "low", "high"] ["thing", "low", "high"] (defScope s_is_within) := ⟨rfl, rfl, rfl, by decide +kernel, rfl, by decide +kernel, by decide +kernel⟩
abbrev s_docopies : Stmt := top 7
theorem sc_docopies : FnScope ["cells", "copies", "source", "target"] ["cells", "copies"] (defScope s_docopies) := ⟨rfl, rfl, rfl, by decide +kernel, rfl, by decide +kernel, by decide +kernel⟩
abbrev s_needmarks : Stmt := top 8
theorem sc_needmarks : FnScope ["copies", "first", "behind"] ["copies", "first", "behind"] (defScope s_needmarks) := ⟨rfl, rfl, rfl, by decide +kernel, rfl, by decide +kernel, by decide +kernel⟩
abbrev s_carried : Stmt := top 9
theorem sc_carried : FnScope ["cells", "copies", "first", "behind", "due", "copy", "place", "told"] ["cells", "copies", "first", "behind"] (defScope s_carried) := ⟨rfl, rfl, rfl, by decide +kernel, rfl, by decide +kernel, by decide +kernel⟩
abbrev s_cell_at : Stmt := top 11
theorem sc_cell_at : FnScope ["_law_script", "_law_k"] ["_law_script", "_law_k"] (defScope s_cell_at) := ⟨rfl, rfl, rfl, by decide +kernel, rfl, by decide +kernel, by decide +kernel⟩
abbrev s_box : Stmt := top 12
theorem sc_box : FnScope ["_law_cell"] ["_law_cell"] (defScope s_box) := ⟨rfl, rfl, rfl, by decide +kernel, rfl, by decide +kernel, by decide +kernel⟩
abbrev s_take : Stmt := top 13
theorem sc_take : FnScope ["_law_box_here", "_law_many_here", "_law_digit", "_law_number"] ["_law_box_here", "_law_many_here"] (defScope s_take) := ⟨rfl, rfl, rfl, by decide +kernel, rfl, by decide +kernel, by decide +kernel⟩
abbrev s_names : Stmt := top 14
theorem sc_names : FnScope ["_law_box_here", "_law_many_here", "_law_letters", "_law_tail", "_law_first", "_law_names_here", "_law_k", "_law_name"] ["_law_box_here", "_law_many_here"] (defScope s_names) := ⟨rfl, rfl, rfl, by decide +kernel, rfl, by decide +kernel, by decide +kernel⟩
abbrev s_many : Stmt := top 16
theorem sc_many : FnScope ["_law_box_here"] ["_law_box_here"] (defScope s_many) := ⟨rfl, rfl, rfl, by decide +kernel, rfl, by decide +kernel, by decide +kernel⟩
abbrev s_rows : Stmt := top 15
theorem sc_rows : FnScope ["_law_box_here", "_law_many_here", "_law_most", "_law_names_here", "_law_pinned", "_law_rows_here", "_law_at", "_law_k", "_law_left", "_law_near", "_law_far", "_law_gap", "_law_wide", "_law_size", "_law_pins"] ["_law_box_here", "_law_many_here"] (defScope s_rows) := ⟨rfl, rfl, rfl, by decide +kernel, rfl, by decide +kernel, by decide +kernel⟩
abbrev s_mixed : Stmt := top 17
theorem sc_mixed : FnScope ["_law_box_here", "_law_some", "_law_left", "_law_found"] ["_law_box_here", "_law_some"] (defScope s_mixed) := ⟨rfl, rfl, rfl, by decide +kernel, rfl, by decide +kernel, by decide +kernel⟩
abbrev s_lroom : Stmt := top 18
theorem sc_lroom : FnScope ["_law_many_here", "_law_rows_here", "_law_k", "_law_low", "_law_high"] ["_law_many_here", "_law_rows_here", "_law_k"] (defScope s_lroom) := ⟨rfl, rfl, rfl, by decide +kernel, rfl, by decide +kernel, by decide +kernel⟩
abbrev s_lsteps : Stmt := top 19
theorem sc_lsteps : FnScope ["_law_box_here", "_law_many_here", "_law_rows_here", "_law_steps_here", "_law_k", "_law_name", "_law_start", "_law_size", "_law_pins", "_law_low", "_law_high", "_law_to"] ["_law_box_here", "_law_many_here", "_law_rows_here"] (defScope s_lsteps) := ⟨rfl, rfl, rfl, by decide +kernel, rfl, by decide +kernel, by decide +kernel⟩
abbrev s_lcopies : Stmt := top 20
theorem sc_lcopies : FnScope ["_law_steps_here", "_law_found", "_law_name", "_law_start", "_law_size", "_law_to"] ["_law_steps_here"] (defScope s_lcopies) := ⟨rfl, rfl, rfl, by decide +kernel, rfl, by decide +kernel, by decide +kernel⟩
abbrev s_lclean : Stmt := top 21
theorem sc_lclean : FnScope ["_law_copies_here", "_law_written", "_law_one", "_law_other"] ["_law_copies_here"] (defScope s_lclean) := ⟨rfl, rfl, rfl, by decide +kernel, rfl, by decide +kernel, by decide +kernel⟩
abbrev s_ldone : Stmt := top 22
theorem sc_ldone : FnScope ["_law_cells", "_law_copies_here", "_law_found", "_law_one", "_law_other"] ["_law_cells", "_law_copies_here"] (defScope s_ldone) := ⟨rfl, rfl, rfl, by decide +kernel, rfl, by decide +kernel, by decide +kernel⟩
abbrev s_ltold : Stmt := top 23
theorem sc_ltold : FnScope ["_law_cells", "_law_copies_here", "_law_first", "_law_behind", "_law_way", "_law_some", "_law_handed", "_law_found", "e", "_law_kept"] ["_law_cells", "_law_copies_here", "_law_first", "_law_behind", "_law_way"] (defScope s_ltold) := ⟨rfl, rfl, rfl, by decide +kernel, rfl, by decide +kernel, by decide +kernel⟩
abbrev s_lsame : Stmt := top 24
theorem sc_lsame : FnScope ["_law_found", "_law_thing"] ["_law_found", "_law_thing"] (defScope s_lsame) := ⟨rfl, rfl, rfl, by decide +kernel, rfl, by decide +kernel, by decide +kernel⟩
abbrev s_lmarks : Stmt := top 25
theorem sc_lmarks : FnScope ["_law_box_here", "_law_cells", "_law_copies_here", "_law_whole", "_law_many_here", "_law_lap", "_law_mark", "_law_half"] ["_law_box_here", "_law_cells", "_law_copies_here"] (defScope s_lmarks) := ⟨rfl, rfl, rfl, by decide +kernel, rfl, by decide +kernel, by decide +kernel⟩
abbrev s_lnomarks : Stmt := top 26
theorem sc_lnomarks : FnScope ["_law_box_here", "_law_cells", "_law_copies_here", "_law_many_here", "_law_some", "_law_bad", "_law_first", "_law_behind", "_law_worse"] ["_law_box_here", "_law_cells", "_law_copies_here"] (defScope s_lnomarks) := ⟨rfl, rfl, rfl, by decide +kernel, rfl, by decide +kernel, by decide +kernel⟩
abbrev s_lnoplaces : Stmt := top 27
theorem sc_lnoplaces : FnScope ["_law_box_here", "_law_cells", "_law_copies_here", "_law_k", "_law_some", "_law_bad", "_law_worse", "_law_one", "_law_other", "_law_row", "_law_spoilt"] ["_law_box_here", "_law_cells", "_law_copies_here"] (defScope s_lnoplaces) := ⟨rfl, rfl, rfl, by decide +kernel, rfl, by decide +kernel, by decide +kernel⟩
abbrev s_lmoved : Stmt := top 28
theorem sc_lmoved : FnScope ["_law_cells", "_law_steps_here", "_law_copies_here", "_law_found", "_law_name", "_law_start", "_law_size", "_law_to"] ["_law_cells", "_law_steps_here", "_law_copies_here"] (defScope s_lmoved) := ⟨rfl, rfl, rfl, by decide +kernel, rfl, by decide +kernel, by decide +kernel⟩
abbrev s_law : Stmt := top 29
theorem sc_law : FnScope ["_law_script", "_law_k", "_law_box_here", "_law_many_here", "_law_steps_here", "_law_rows_here", "_law_cells", "_law_copies_here"] ["_law_script"] (defScope s_law) := ⟨rfl, rfl, rfl, by decide +kernel, rfl, by decide +kernel, by decide +kernel⟩
abbrev i_NoPlace : Stmt := inClass (top 2) 0
theorem si_NoPlace : FnScope ["self", "at"] ["self", "at"] (defScope i_NoPlace) := ⟨rfl, rfl, rfl, by decide +kernel, rfl, by decide +kernel, by decide +kernel⟩
theorem I_NoPlace {P : Program} {w : World} {K : PySem.W.Frag} {mg : Str → Option Value} {base : Heap} {C : Addr} (S : ExcS K C) (n0 : NoAttr K C "at") : InitOk P w K mg base CX0 "NoPlace.__init__" i_NoPlace ["self", "at"] (spI1 C "at") := fun f fd F => by
  refine ⟨F.ok si_NoPlace (fun vs H Q E h => ?_) (fun cdv A outer s H vs Q E hr h => ?_), F.binds (fun _ _ _ _ _ _ us hl => match us, hl with | [_, _], _ => rfl)⟩
  · obtain ⟨x, v, rfl, _⟩ := h
    rfl
  · obtain ⟨x, v, rfl, ho, k⟩ := h
    refine ⟨_, pss_one (ps_exc (pv 0) (pv 1)), ?_⟩
    exact ⟨_, rfl, _, rfl, x, C, rfl, S, n0.taker, .inl ⟨ho, k⟩⟩
structure Txt (K : PySem.W.Frag) (mg : Str → Option Value) (c : Nat → Addr) (R  : Addr) : Prop where
  e_NoPlace : HasExc K mg "NoPlace" "NoPlace.__init__" i_NoPlace (c 0) R
  k_NoPlace : ExcK K (c 0) R
  a_NoPlace_at : NoAttr K (c 0) "at"
  d_is_whole : HasDef K mg "is_whole" s_is_whole
  d_is_within : HasDef K mg "is_within" s_is_within
  d_docopies : HasDef K mg "do_copies" s_docopies
  d_needmarks : HasDef K mg "need_marks" s_needmarks
  d_carried : ∃ tk0 tk1 : Tok, HasDefD K mg "carried" s_carried [.int 0 tk0, .none]
  d_cell_at : HasDef K mg "_law_cell_at" s_cell_at
  d_box : HasDef K mg "_law_box" s_box
  d_take : HasDef K mg "_law_take" s_take
  d_names : HasDef K mg "_law_names" s_names
  d_many : HasDef K mg "_law_many" s_many
  d_rows : HasDef K mg "_law_rows" s_rows
  d_mixed : HasDef K mg "_law_mixed" s_mixed
  d_lroom : HasDef K mg "_law_room" s_lroom
  d_lsteps : HasDef K mg "_law_steps" s_lsteps
  d_lcopies : HasDef K mg "_law_copies" s_lcopies
  d_lclean : HasDef K mg "_law_clean" s_lclean
  d_ldone : HasDef K mg "_law_done" s_ldone
  d_ltold : HasDef K mg "_law_told" s_ltold
  d_lsame : HasDef K mg "_law_same" s_lsame
  d_lmarks : HasDef K mg "_law_marks_right" s_lmarks
  d_lnomarks : HasDef K mg "_law_no_marks" s_lnomarks
  d_lnoplaces : HasDef K mg "_law_no_places" s_lnoplaces
  d_lmoved : HasDef K mg "_law_moved" s_lmoved
  n_isinstance : mg "isinstance" = none
  n_int : mg "int" = none
  n_bool : mg "bool" = none
  n_str : mg "str" = none
  n_list : mg "list" = none
  n_tuple : mg "tuple" = none
  n_len : mg "len" = none
  n_all : mg "all" = none
  n_range : mg "range" = none
  n_sorted : mg "sorted" = none
  n_max : mg "max" = none
  n_min : mg "min" = none
  n_reversed : mg "reversed" = none
  n_ValueError : mg "ValueError" = none
  g_R : mg "RoomError" = some (.ref R)
  c_R : (PySem.W.clsIn K R).isSome = true
  t_R : PySem.W.typeIn K (.ref R) = some (.type "type")
  m_R : PySem.W.mroIn K R (.type "BaseException") = some true
local macro_rules | `(tactic| k_tabat) => `(tactic| first
  | with_reducible assumption
  | (with_reducible exact New.e (by with_reducible assumption))
  | (with_reducible refine New.at (by with_reducible assumption) ?_; k_tabat)
  | (with_reducible refine Off.at (by with_reducible assumption) (by k_ne) ?_; k_tabat)
  | (with_reducible refine Kp.at (by with_reducible assumption) (by k_ne) ?_; k_tabat)
  | (with_reducible refine Same.at (by with_reducible assumption) ?_; k_tabat))
local macro_rules | `(tactic| k_ne) => `(tactic| first
  | with_reducible assumption
  | (with_reducible exact Ne.symm (by with_reducible assumption))
  | (with_reducible exact New.neA (by with_reducible assumption) (by k_in))
  | (with_reducible exact New.neB (by with_reducible assumption) (by k_in)))
local macro_rules | `(tactic| k_in) => `(tactic| first
  | (with_reducible exact Hs.of (by with_reducible assumption))
  | (with_reducible exact New.hs (by with_reducible assumption))
  | (with_reducible refine New.hsAt (by with_reducible assumption) ?_; k_in)
  | (with_reducible refine Off.hsAt (by with_reducible assumption) (by k_ne) ?_; k_in)
  | (with_reducible refine Kp.hsAt (by with_reducible assumption) (by k_ne) ?_; k_in)
  | (with_reducible refine Same.hsAt (by with_reducible assumption) ?_; k_in))
local macro_rules | `(tactic| k_flat) => `(tactic| first
  | with_reducible assumption
  | (with_reducible exact SqL.of (by k_tabat))
  | (with_reducible exact SqT.of (by k_tabat))
  | (with_reducible refine Same.seq (by with_reducible assumption) ?_; k_flat)
  | (with_reducible refine Same.seq (New.s (by with_reducible assumption)) ?_; k_flat)
  | (with_reducible refine Off.seq (by with_reducible assumption) (by k_ne) ?_; k_flat))
local macro_rules | `(tactic| k_keys) => `(tactic| first
  | with_reducible assumption
  | (with_reducible exact atI_0)
  | (with_reducible exact atL1)
  | (with_reducible exact atL2)
  | (with_reducible exact atL3)
  | with_unfolding_all rfl)
local macro_rules | `(tactic| k_room) => `(tactic| first
  | with_reducible assumption
  | decide
  | omega
  | (simp only [List.length_cons, List.length_nil, List.length_map, List.length_append, List.length_replicate]; omega))
local macro_rules | `(tactic| k_inst) => `(tactic| first
  | (with_reducible refine small_line ?_; first | omega | (simp only [List.length_cons, List.length_nil, List.length_map, List.length_append, List.length_replicate, rowsN_len]; omega))
  | (with_reducible refine small_lt ?_; first | omega | (simp only [List.length_cons, List.length_nil, List.length_map, List.length_append, List.length_replicate, rowsN_len]; omega))
  | with_unfolding_all exact Nat.le_of_ble_eq_true rfl
  | omega)
local macro_rules | `(tactic| k_upd) => `(tactic| first
  | with_reducible assumption
  | (intro b u e; k_tabat))
local macro_rules | `(tactic| k_updF) => `(tactic| first
  | with_reducible assumption
  | (intro b u nb e; k_tabat))
local macro_rules | `(tactic| k_all) => `(tactic| first
  | with_reducible assumption
  | (refine ⟨?_, ?_, ?_⟩; (focus (intro b u e; k_tabat)); (focus k_tabat); (focus (intro b u e; k_ne))))
local macro_rules | `(tactic| k_mem) => `(tactic| with_reducible (first
  | refine go_seq ?_ | refine go_asg ?_ | refine go_ret ?_ | refine go_if ?_ | refine go_drop ?_ | refine go_next ?_ | refine go_nx ?_ | refine w_rt ?_
  | refine go_test ?_ | refine go_b ?_ | refine go_op ?_ | refine go_cb ?_ | refine go_cons ?_ | refine go_nil ?_ | refine w_call ?_ | refine w_c ?_
  | refine wv0 ?_ | refine wv1 ?_ | refine wv2 ?_ | refine wv3 ?_ | refine wv4 ?_ | refine wv5 ?_ | refine wv6 ?_ | refine wv7 ?_ | refine wv8 ?_ | refine wv9 ?_ | refine wv10 ?_ | refine wv11 ?_ | refine wv12 ?_ | refine wv13 ?_
  | refine wn0 ?_ | refine wn1 ?_ | refine wn2 ?_ | refine wn3 ?_ | refine wn4 ?_ | refine wn5 ?_ | refine wn6 ?_ | refine wn7 ?_ | refine wn8 ?_ | refine wn9 ?_ | refine wn10 ?_ | refine wn11 ?_ | refine wn12 ?_ | refine wn13 ?_
  | refine w_i0 ?_ | refine w_u ?_ | refine w_un ?_ | refine w_eqi ?_ | refine w_nei ?_ | refine w_eqs ?_ | refine w_nes ?_ | refine w_eqb ?_ | refine w_neb ?_ | refine w_bl ?_ | refine w_not ?_ | refine w_and ?_ | refine w_or ?_ | refine w_notV ?_ | refine w_andV ?_ | refine w_orV ?_
  | refine w_ifE ?_ | refine w_chain ?_ | refine w_bm ?_ | refine w_bm0 ?_ | refine w_sub ?_ | refine w_slice ?_ | refine w_noPart ?_ | refine w_part ?_ | refine w_int ?_ | refine w_max ?_ | refine w_min ?_ | refine w_intB ?_ | refine w_intI ?_
  | refine w_mod (by decide) ?_ | refine w_div (by decide) (by decide) ?_ | refine w_pow (by decide) (by decide) (by decide) ?_ | refine w_mulL (by decide) (by decide) ?_ | refine w_mulR (by decide) (by decide) ?_ | refine go_tupA ?_ | refine go_lstA ?_ | refine w_notT ?_ | refine w_isB ?_ | refine w_isNB ?_ | refine w_revSl ?_ | refine w_din ?_ | refine w_dput ?_ | refine go_fs ?_ | refine go_fmt ?_ | refine go_fld ?_ | refine go_methB ?_ | refine go_makeB ?_ | refine go_sfldB ?_))
set_option hygiene false in
local macro_rules | `(tactic| k_meth) => `(tactic| first
  | k_mem
  | with_reducible (refine w_isTT (by k_tabat) ?_)
  | with_reducible (refine w_isLL (by k_tabat) ?_)
  | with_reducible (refine w_isTL (by k_tabat) ?_)
  | with_reducible (refine w_isLT (by k_tabat) ?_)
  | with_reducible refine w_isII ?_
  | with_reducible refine w_isIB ?_
  | with_reducible refine w_isBB ?_
  | with_reducible refine w_isBI ?_
  | with_reducible (refine w_ixL (by k_flat) (by k_keys) ?_)
  | with_reducible (refine w_ixT (by k_flat) (by k_keys) ?_)
  | with_reducible (refine w_lenL (by k_flat) ?_)
  | with_reducible (refine w_lenT (by k_flat) ?_)
  | with_reducible (refine made_ok (by k_inst) ?_; intro _ _ _)
  | with_reducible (refine w_tyL (by k_flat) ?_)
  | with_reducible (refine w_app (by k_tabat) (by k_inst) ?_; intro _ _ _)
  | with_reducible (refine w_clr (by k_tabat) ?_; intro _ _ _)
  | with_reducible (refine w_slA (by k_flat) ?_; intro _ _ _)
  | with_reducible (refine w_catA (by k_tabat) (by k_tabat) (by k_inst) ?_; intro _ _ _)
  | with_reducible (refine w_lofL (by k_flat) ?_; intro _ _ _)
  | with_reducible (refine w_rep1 (by k_tabat) (by omega) ?_; intro _ _ _)
  | with_reducible (refine i_pos (by k_room) ?_)
  | with_reducible (refine i_neg (by k_room) ?_)
  | with_reducible (refine i_npos (by k_room) ?_)
  | with_reducible (refine i_nneg (by k_room) ?_)
  | with_reducible (refine i_tt ?_)
  | with_reducible (refine i_ff ?_)
  | with_reducible (refine i_ntt ?_)
  | with_reducible (refine i_nff ?_)
  | with_reducible (refine w_tupB (by with_unfolding_all rfl) (by k_flat) ?_)
  | with_reducible (refine go_aug rfl ?_)
  | with_reducible refine w_not2 ?_
  | with_reducible refine go_ck ?_
  | with_reducible refine go_slc ?_
  | with_reducible (refine w_mod (by omega) ?_)
  | with_reducible (refine w_rng2 ?_)
  | with_reducible refine w_forE ?_
  | with_reducible refine w_forR1 ?_
  | with_reducible refine w_forR2 ?_
  | with_reducible refine w_forL ?_
  | with_reducible refine w_compL ?_)
section
variable {P : Program} {w : World} {K : PySem.W.Frag} {mg : Str → Option Value} {base : Heap} {c : Nat → Addr} {R  : Addr}
theorem D_is_whole (T : Txt K mg c R ) : Def P w K mg base CX0 1 "is_whole" ["thing"] (sp_whole K) := by
  refine def_of T.d_is_whole sc_is_whole (fun vs H Q E h => ?_) (fun _ _ _ _ _ _ us hl => match us, hl with | [_], _ => rfl) (fun f cdv A outer s H vs Q E hr h => ?_)
  · obtain ⟨x, n, rfl, _⟩ := h
    rfl
  · obtain ⟨x, n, rfl, ty, k⟩ := h
    have nd := sc_is_whole.nd
    refine ⟨_, (pss_one (ps_ret (pe_and (pe_callB call_isT rfl T.n_isinstance boot_isinstance (pa_cons (pv 0) (pa_cons (pe_ty (T := "int") rfl T.n_int boot_int) pa_nil))) (pe_one (pe_not (pe_callB call_isT rfl T.n_isinstance boot_isinstance (pa_cons (pv 0) (pa_cons (pe_ty (T := "bool") rfl T.n_bool boot_bool) pa_nil)))))))), ?_⟩
    clear nd 
    rw [show start ["thing"] [x] = [some (x)] from rfl]
    try dsimp only [cx_K, cx_K2]
    rw [isW_eq] at k
    repeat k_mem
    refine w_is ty (bt_int ty) ?_
    repeat k_mem
    refine i_b (fun h => ?_) (fun h => ?_)
    · repeat k_mem
      refine w_is ty (bt_bool ty) ?_
      repeat k_mem
      rw [h] at k
      exact k
    · rw [h] at k
      exact k
theorem D_is_within (T : Txt K mg c R ) : Def P w K mg base CX0 2 "is_within" ["thing", "low", "high"] (sp_is_within K) := by
  have D_is_whole := D_is_whole (P := P) (w := w) (base := base) T
  refine def_of T.d_is_within sc_is_within (fun vs H Q E h => ?_) (fun _ _ _ _ _ _ us hl => match us, hl with | [_, _, _], _ => rfl) (fun f cdv A outer s H vs Q E hr h => ?_)
  · obtain ⟨x, n, lo, hi, rfl, _⟩ := h
    rfl
  · obtain ⟨x, n, lo, hi, rfl, ty, k⟩ := h
    have nd := sc_is_within.nd
    refine ⟨_, (pss_one (ps_ret (pe_and (pe_def D_is_whole hr (pa_cons (pv 0) pa_nil)) (pe_one (pe_chain op_le op_le (pv 1) (pv 0) (pv 2)))))), ?_⟩
    clear nd D_is_whole
    rw [show start ["thing", "low", "high"] [x, .int lo, .int hi] = [some (x), some (.int lo), some (.int hi)] from rfl]
    try dsimp only [cx_K, cx_K2]
    repeat k_mem
    refine u_whole ty ?_
    repeat k_mem
    cases x with
    | int i =>
      refine i_T rfl ?_
      repeat k_mem
      have k : Q (.bl (decide (lo ≤ i) && decide (i ≤ hi))) H := k
      refine i_dec (fun h => ?_) (fun h => ?_)
      · repeat k_mem
        rw [decide_eq_true h, Bool.true_and] at k
        exact k
      · rw [decide_eq_false h, Bool.false_and] at k
        exact k
    | _ => exact i_F rfl k
end
end K63
namespace K63
open PySem L2 PyProof.Rows
local macro_rules | `(tactic| k_room) => `(tactic| first
  | with_reducible assumption
  | with_unfolding_all exact rfl
  | with_unfolding_all exact Nat.le_of_ble_eq_true rfl
  | omega
  | (with_reducible refine small_line ?_; first | omega | (simp only [List.length_cons, List.length_nil, List.length_map, List.length_append, List.length_replicate, rowsN_len, List.length_take, List.length_drop, List.length_set]; omega))
  | (with_reducible refine small_lt ?_; first | omega | (simp only [List.length_cons, List.length_nil, List.length_map, List.length_append, List.length_replicate, rowsN_len, List.length_take, List.length_drop, List.length_set]; omega))
  | (simp only [List.length_cons, List.length_nil, List.length_map, List.length_append, List.length_replicate, rowsN_len, List.length_take, List.length_drop, List.length_set]; omega)
  | decide)
local macro_rules | `(tactic| k_mem) => `(tactic| first
  | with_reducible assumption
  | decide
  | omega
  | (simp only [List.length_cons, List.length_nil, List.length_map, List.length_append, List.length_replicate, rowsN_len, List.length_take, List.length_drop, List.length_set]; omega))
set_option hygiene false in
local macro_rules | `(tactic| k_meth) => `(tactic| first
  | with_reducible refine go1 ?_
  | (intro H_ a_ dx_ (F_ : SH _ _ _ _ _) (ex_ : ExcT _ _ _ _); clear F; (have F := F_); clear F_; have exA_ := ExA.mk ex_)
  | (intro H_ (F_ : SH _ _ _ _ _); clear F; (have F := F_); clear F_)
  | (intro H_ p_ (F_ : SH _ _ _ _ _); clear F; (have F := F_); clear F_)
  | (intro H_ x_ dx_ (F_ : SH _ _ _ _ _); clear F; (have F := F_); clear F_)
  | (intro H_ p_ ys_ l_ (F_ : SH _ _ _ _ _); clear F; (have F := F_); clear F_)
  | with_reducible refine sd (by k_room) ?_
  | (intro (r_ : Int) (x_ : Int) (y_ : Int) (z_ : Int) lo_ hi_)
  | (intro (x_ : Int) (y_ : Int))
  | (intro (c_ : Int))
  | with_reducible refine i_pos (by k_mem) ?_
  | with_reducible refine i_neg (by k_mem) ?_
  | with_reducible refine i_npos (by k_mem) ?_
  | with_reducible refine i_nneg (by k_mem) ?_)
section
variable {H : Hp} {l : Addr} {x y z v : V} {r : List V} {R : Hp → Prop}
instance go_set0 [h : Hat H l (.lst (x :: r))] : Go (rSetA (.ref l) (.int 0) v H R) (∀ H', Off l H H' → H' l = some (.lst (v :: r)) → R H') := ⟨fun k => w_setA h.e (j := 0) (by unfold ixN; rw [if_pos (by decide), if_pos (by simp only [List.length_cons]; omega)]; rfl) k⟩
def sp_takeK : Sp := fun vs H Q _ => ∃ (p : Addr) (a b c m : Int), vs = [.ref p, .int m] ∧ H p = some (.lst [.int a, .int b, .int c]) ∧ 0 < m ∧ m < 1073741824 ∧ ∀ (r a' b' c' : Int) (H' : Hp), 0 ≤ r → r < m → Kp p H H' → H' p = some (.lst [.int a', .int b', .int c']) → Q (.int r) H'
instance go_takeK {Q : VK} {E : XK} {p : Addr} {a b c m : Int} [h : Hat H p (.lst [.int a, .int b, .int c])] : Go (sp_takeK [.ref p, .int m] H Q E) (Sd (0 < m ∧ m < 1073741824) (∀ r a' b' c' : Int, 0 ≤ r → r < m → ∀ H', Kp p H H' → H' p = some (.lst [.int a', .int b', .int c']) → Q (.int r) H')) := ⟨fun s => ⟨p, a, b, c, m, rfl, h.e, s.1.1, s.1.2, fun r a' b' c' H' h0 h1 f e => s.2 r a' b' c' h0 h1 H' f e⟩⟩
instance go_set2 [h : Hat H l (.lst (x :: y :: z :: r))] : Go (rSetA (.ref l) (.int 2) v H R) (∀ H', Off l H H' → H' l = some (.lst (x :: y :: v :: r)) → R H') := ⟨fun k => w_setA h.e (j := 2) (by unfold ixN; rw [if_pos (by decide), if_pos (by simp only [List.length_cons]; omega)]; rfl) k⟩
end
section
variable {P : Program} {w : World} {K : PySem.W.Frag} {mg : Str → Option Value} {base : Heap} {c : Nat → Addr} {R  : Addr}
theorem D_cell_at (T : Txt K mg c R ) : Def P w K mg base CX0 1 "_law_cell_at" ["_law_script", "_law_k"] (sp_cellA K) := by
  refine def_of T.d_cell_at sc_cell_at (fun vs H Q E h => ?_) (fun _ _ _ _ _ _ us hl => match us, hl with | [_, _], _ => rfl) (fun f cdv A outer s H vs Q E hr h => ?_)
  · obtain ⟨a, ns, m, rfl, _⟩ := h
    rfl
  · obtain ⟨a, ns, m, rfl, hS, m0, k⟩ := h
    have nd := sc_cell_at.nd
    refine ⟨_, (pss_cons (ps_if (pt_cmpR op_lt (pv 1) (pe_callB call_lenN rfl T.n_len boot_len (pa_cons (pv 0) pa_nil)) (nomark _)) (pss_one (ps_ret (pe_ix ix_list (pv 0) (pv 1) (fun _ _ => rfl)))) pss_nil)
      (pss_one (ps_ret (pe_op op_add (pe_op op_mul pe_int (pv 1)) pe_int)))), ?_⟩
    clear nd 
    rw [show start ["_law_script", "_law_k"] [.ref a, .int m] = [some (.ref a), some (.int m)] from rfl]
    try dsimp only [cx_K, cx_K2]
    have o_hS := OldQ.mk (M := []) hS nm0
    have F : SH H [] H [] [] := SH.nil
    repeat k_meth
    refine i_dec (fun h => ?_) (fun h => ?_)
    · repeat k_meth
      obtain ⟨v, e, mm⟩ := atI_lt (xs := ns.map V.int) m0 h
      obtain ⟨c, _, rfl⟩ := List.mem_map.mp mm
      exact w_ixL hS e (k c)
    · repeat k_meth
      exact k _
theorem D_box (T : Txt K mg c R ) : Def P w K mg base CX0 1 "_law_box" ["_law_cell"] sp_boxA := by
  refine def_of T.d_box sc_box (fun vs H Q E h => ?_) (fun _ _ _ _ _ _ us hl => match us, hl with | [_], _ => rfl) (fun f cdv A outer s H vs Q E hr h => ?_)
  · obtain ⟨c, rfl, _⟩ := h
    rfl
  · obtain ⟨c, rfl, k⟩ := h
    have nd := sc_box.nd
    refine ⟨_, (pss_one (ps_ret (pe_lstA (pa_cons (pe_op op_mul (pe_callB (call_maxN rfl) rfl T.n_max boot_max (pa_cons pe_int (pa_cons (pv 0) pa_nil))) (pe_callTy call_intN rfl T.n_int boot_int (pa_cons (pe_cmpR op_ge (pv 0) (pe_op op_pow pe_int pe_int) (nomark _)) pa_nil))) (pa_cons (pe_op op_mod (pv 0) pe_int) (pa_cons pe_int pa_nil)))))), ?_⟩
    clear nd 
    rw [show start ["_law_cell"] [.int c] = [some (.int c)] from rfl]
    try dsimp only [cx_K, cx_K2]
    have F : SH H [] H [] [] := SH.nil
    repeat k_meth
    exact k _ _ _ _ SH.nwC
theorem D_take (T : Txt K mg c R ) : Def P w K mg base CX0 1 "_law_take" ["_law_box_here", "_law_many_here"] sp_takeK := by
  refine def_of T.d_take sc_take (fun vs H Q E h => ?_) (fun _ _ _ _ _ _ us hl => match us, hl with | [_, _], _ => rfl) (fun f cdv A outer s H vs Q E hr h => ?_)
  · obtain ⟨p, a, b, c, m, rfl, _⟩ := h
    rfl
  · obtain ⟨p, a, b, c, m, rfl, hp, m0, m1, k⟩ := h
    have nd := sc_take.nd
    refine ⟨_, (pss_cons (ps_if (pt_cmpR op_gt (pe_ix ix_list (pv 0) pe_int (fun _ _ => rfl)) pe_int (nomark _)) (pss_cons (ps_set (i := 2) nd rfl (Or.inl rfl) (pe_op op_mod (pe_ix ix_list (pv 0) pe_int (fun _ _ => rfl)) (pv 1)))
        (pss_cons (ps_asg (pe_op op_fdiv (pe_ix ix_list (pv 0) pe_int (fun _ _ => rfl)) (pv 1)) (pg_sub (pv 0) pe_int set_listA))
        (pss_one (ps_ret (pv 2))))) pss_nil)
      (pss_cons (ps_asg (pe_op op_add (pe_ix ix_list (pv 0) pe_int (fun _ _ => rfl)) pe_int) (pg_sub (pv 0) pe_int set_listA))
      (pss_cons (ps_set (i := 3) nd rfl (Or.inl rfl) (pe_op op_mod (pe_op op_mul (pe_op op_add (pe_ix ix_list (pv 0) pe_int (fun _ _ => rfl)) (pe_op op_mul pe_int (pe_ix ix_list (pv 0) pe_int (fun _ _ => rfl)))) pe_int) pe_int))
      (pss_cons (ps_set (i := 3) nd rfl (Or.inl rfl) (pe_op op_mod (pe_op op_mul (pv 3) (pv 3)) pe_int))
      (pss_one (ps_ret (pe_op op_mod (pe_op op_fdiv (pe_op op_mod (pe_op op_mul (pe_op op_add (pv 3) (pe_ix ix_list (pv 0) pe_int (fun _ _ => rfl))) (pe_op op_add (pv 3) pe_int)) pe_int) pe_int) (pv 1)))))))), ?_⟩
    clear nd 
    rw [show start ["_law_box_here", "_law_many_here", "_law_digit", "_law_number"] [.ref p, .int m] = [some (.ref p), some (.int m), none, none] from rfl]
    try dsimp only [cx_K, cx_K2]
    have F : SH H [p] H [(p, .lst [.int a, .int b, .int c])] [] := SH.nil.addM List.mem_cons_self hp rfl (by simp)
    repeat k_meth
    refine i_dec (fun h => ?_) (fun h => ?_)
    · repeat k_meth
      exact k _ _ _ _ _ (Int.emod_nonneg _ (by omega)) (Int.emod_lt_of_pos _ m0) F.kpo hatC
    · repeat k_meth
      exact k _ _ _ _ _ (Int.emod_nonneg _ (by omega)) (Int.emod_lt_of_pos _ m0) F.kpo hatC
end
def sp_lmany : Sp := fun vs H Q _ => ∃ (bx : Addr) (x y z : Int), vs = [.ref bx] ∧ H bx = some (.lst [.int x, .int y, .int z]) ∧ ∀ (n : Nat) (x' y' z' : Int) (H' : Hp), 16 ≤ n → n ≤ 240 → Kp bx H H' → H' bx = some (.lst [.int x', .int y', .int z']) → Q (.int (n : Nat)) H'
def sp_names : Sp := fun vs H Q _ => ∃ (bx : Addr) (x y z : Int) (m : Nat), vs = [.ref bx, .int (m : Nat)] ∧ H bx = some (.lst [.int x, .int y, .int z]) ∧ m ≤ 40 ∧ ∀ (x' y' z' : Int) (nms : List (List Nat)) (p : Addr) (H' : Hp), nms.length = m → (∀ cs ∈ nms, NameOk cs) → nms.Nodup → Kp bx H H' → H' bx = some (.lst [.int x', .int y', .int z']) → H' p = some (.lst (nms.map fun cs => .str (tx cs))) → (∀ b u, H b = some u → b ≠ p) → Q (.ref p) H'
def sp_lrows : Sp := fun vs H Q _ => ∃ (bx : Addr) (x y z : Int) (n : Nat), vs = [.ref bx, .int (n : Nat)] ∧ H bx = some (.lst [.int x, .int y, .int z]) ∧ 16 ≤ n ∧ n ≤ 240 ∧ ∀ (x' y' z' : Int) (rs : List Rw) (p : Addr) (ys : List V) (H' : Hp), Lay n rs → Asc rs → Kp bx H H' → H' bx = some (.lst [.int x', .int y', .int z']) → H' p = some (.lst ys) → TupsAt H' ys (rowsV rs) → (∀ b u, H b = some u → b ≠ p) → Q (.ref p) H'
theorem two_steps {H H' : Hp} {bx p : Addr} {b3 o : HO} {R : Hp → Prop} (hb : ∃ u, H bx = some u) (kp : Kp bx H H') (eb : H' bx = some b3) (ep : H' p = some o) (fr : ∀ b u, H b = some u → b ≠ p) (k : ∀ H1, Kp bx H H1 → H1 bx = some b3 → New H1 H' p o → R H') : R H' := by
  obtain ⟨u0, hb⟩ := hb
  have nb : bx ≠ p := fr bx _ hb
  have h1 : ∀ {b : Addr}, b ≠ p → (fun b => if b = p then none else H' b : Hp) b = H' b := fun n => if_neg n
  refine k (fun b => if b = p then none else H' b) (fun b u n e => ?_) ?_ ⟨fun b u e => ?_, ep, fun b u e z => ?_⟩
  · rw [h1 (fr b u e)]
    exact kp b u n e
  · exact (h1 nb).trans eb
  · have e : (if b = p then none else H' b) = some u := e
    split at e
    · cases e
    · exact e
  · have e : (if b = p then none else H' b) = some u := e
    rw [if_pos z] at e
    cases e
section
variable {bx l : Addr} {x y z : Int} {H : Hp} {Q : VK} {E : XK} {n m : Nat} {ys : List V} {rs : List Rw}
instance go_lmany [h : Hat H bx (.lst [.int x, .int y, .int z])] : Go (sp_lmany [.ref bx] H Q E) (∀ (x' y' z' : Int) (n : Nat), 16 ≤ n → n ≤ 240 → ∀ H', Kp bx H H' → H' bx = some (.lst [.int x', .int y', .int z']) → Q (.int (n : Nat)) H') := ⟨fun k => ⟨bx, x, y, z, rfl, h.e, fun n x' y' z' H' h1 h2 f e => k x' y' z' n h1 h2 H' f e⟩⟩
instance go_names [h : Hat H bx (.lst [.int x, .int y, .int z])] : Go (sp_names [.ref bx, .int (m : Nat)] H Q E) (Sd (m ≤ 40) (∀ (x' y' z' : Int) (nms : List (List Nat)), nms.length = m → (∀ cs ∈ nms, NameOk cs) → nms.Nodup → ∀ H1, Kp bx H H1 → H1 bx = some (.lst [.int x', .int y', .int z']) → ∀ p H2, New H1 H2 p (.lst (nms.map fun cs => .str (tx cs))) → Q (.ref p) H2)) :=
  ⟨fun s => ⟨bx, x, y, z, m, rfl, h.e, s.1, fun x' y' z' nms p H' h1 h2 h3 f e e2 fr => two_steps (R := fun H' => Q (.ref p) H') ⟨_, h.e⟩ f e e2 fr fun H1 f1 e1 n1 => s.2 x' y' z' nms h1 h2 h3 H1 f1 e1 p H' n1⟩⟩
instance go_lrows [h : Hat H bx (.lst [.int x, .int y, .int z])] : Go (sp_lrows [.ref bx, .int (n : Nat)] H Q E) (Sd (16 ≤ n ∧ n ≤ 240) (∀ (x' y' z' : Int) (rs : List Rw), Lay n rs → Asc rs → ∀ H1, Kp bx H H1 → H1 bx = some (.lst [.int x', .int y', .int z']) → ∀ p ys H2, New H1 H2 p (.lst ys) → TupsAt H2 ys (rowsV rs) → Q (.ref p) H2)) :=
  ⟨fun s => ⟨bx, x, y, z, n, rfl, h.e, s.1.1, s.1.2, fun x' y' z' rs p ys H' h1 h2 f e e2 t fr => two_steps (R := fun H' => Q (.ref p) H') ⟨_, h.e⟩ f e e2 fr fun H1 f1 e1 n1 => s.2 x' y' z' rs h1 h2 H1 f1 e1 p ys H' n1 t⟩⟩
end
def letter (s : Nat) : Nat := 97 + s % 26
theorem letter_at {s : Int} {c : Nat} (h0 : 0 ≤ s) (h : (List.range' 97 26)[(s % 26).toNat]? = some c) : c = letter s.toNat := by
  have h1 : (s % 26).toNat < 26 := by omega
  rw [List.getElem?_eq_getElem (by simpa using h1), List.getElem_range'] at h
  have := Option.some.inj h
  unfold letter
  omega
theorem letter_low (s : Nat) : isLow (letter s) = true := by
  unfold isLow letter
  rw [decide_eq_true (by omega), decide_eq_true (by omega)]
  rfl
def nameA (s : Nat) (tl : List Nat) (k : Nat) : List Nat := [letter (s + k / 8)] ++ tl.take (k % 8)
theorem nodup_of {nms : List (List Nat)} (h : ∀ (i j : Nat) a b, i < j → nms[i]? = some a → nms[j]? = some b → a ≠ b) : nms.Nodup := by
  rw [List.Nodup, List.pairwise_iff_getElem]
  intro i j hi hj hij
  exact h i j _ _ hij (by simp) (by simp)
theorem join_one : ∀ cs : List Nat, Str.join (Str.ofString "") (cs.map fun c => tx [c]) = tx cs := by
  have e0 : Str.ofString "" = tx [] := by decide +kernel
  rw [e0]
  intro cs
  induction cs with
  | nil => rfl
  | cons c t ih =>
    cases t with
    | nil => rfl
    | cons d u =>
      show tx [c] ++ tx [] ++ Str.join (tx []) ((d :: u).map fun c => tx [c]) = _
      rw [ih, append_tx, append_tx]
      rfl
instance go_join {K : PySem.W.Frag} {H : Hp} {Q : VK} {p : Addr} {cs : List Nat} [h : SqA K H p (cs.map fun c => V.str (tx [c]))] : Go (rJoin K (.str (Str.ofString "")) [.ref p] H Q) (Sd (cs.length ≤ 1000) (Q (.str (tx cs)) H)) := ⟨fun s => ⟨_, p, cs.map fun c => tx [c], rfl, rfl, by rw [List.map_map]; exact h.e, by decide, by
  rw [List.map_map, List.length_map]
  have : (cs.map ((fun t : Str => t.length) ∘ fun c => tx [c])) = cs.map fun _ => 1 := rfl
  rw [this, List.map_const']
  have hs : (List.replicate cs.length 1).sum = cs.length := by simp
  have := s.1
  omega, by rw [join_one]; exact s.2⟩⟩
instance go_tyS {K : PySem.W.Frag} {H : Hp} {z : Str} {R : Prop} : Go (tyV K "str" (.str z) H ∧ R) R := ⟨fun k => ⟨by first | exact .inr (.inr rfl) | exact .inr rfl | exact ⟨_, rfl⟩ | trivial, k⟩⟩
structure TailOk7 (tl : List Nat) : Prop where
  len : tl.length = 7
  hd : ∀ c, tl[0]? = some c → c ∈ [97, 98, 122]
  all : ∀ c ∈ tl, c ∈ [97, 98, 122, 48, 49, 57, 113]
theorem TailOk7.sgn {tl : List Nat} (h : TailOk7 tl) : ∀ c ∈ tl, (isLow c || isFig c) = true := fun c hc => by
  have := h.all c hc
  simp only [List.mem_cons, List.not_mem_nil, or_false] at this
  rcases this with rfl | rfl | rfl | rfl | rfl | rfl | rfl <;> rfl
def nameC (s : Nat) (tl : List Nat) (k r : Nat) : List Nat := ([letter (s + 5 * k)] ++ List.replicate (k / 26) 48) ++ tl.take r
theorem nameA_ok7 {s k : Nat} {tl : List Nat} (h : TailOk7 tl) : NameOk (nameA s tl k) := by
  refine ⟨?_, ?_, fun c hc => ?_, fun c hc => ?_⟩
  · simp [nameA]
  · simp only [nameA, List.length_append, List.length_singleton, List.length_take]
    omega
  · have : some (letter (s + k / 8)) = some c := hc
    cases this
    exact letter_low _
  · rcases List.mem_append.mp hc with hc | hc
    · rw [List.mem_singleton.mp hc, letter_low]
      rfl
    · exact h.sgn c (List.mem_of_mem_take hc)
theorem nameC_ok {s k r : Nat} {tl : List Nat} (h : TailOk7 tl) (hr : r < 7) (hk : k < 52) : NameOk (nameC s tl k r) := by
  refine ⟨?_, ?_, fun c hc => ?_, fun c hc => ?_⟩
  · simp [nameC]
  · simp only [nameC, List.length_append, List.length_singleton, List.length_take, List.length_replicate]
    omega
  · have : some (letter (s + 5 * k)) = some c := hc
    cases this
    exact letter_low _
  · rcases List.mem_append.mp hc with hc | hc
    · rcases List.mem_append.mp hc with hc | hc
      · rw [List.mem_singleton.mp hc, letter_low]
        rfl
      · rw [(List.mem_replicate.mp hc).2]
        rfl
    · exact h.sgn c (List.mem_of_mem_take hc)
theorem nameA_inj7 {s : Nat} {tl : List Nat} (h : tl.length = 7) {i j : Nat} (hi : i < 40) (hj : j < 40) (e : nameA s tl i = nameA s tl j) : i = j := by
  have e1 := congrArg List.length e
  simp only [nameA, List.length_append, List.length_singleton, List.length_take, h] at e1
  have e2 : letter (s + i / 8) = letter (s + j / 8) := by
    have := congrArg (fun l : List Nat => l[0]?) e
    exact Option.some.inj this
  unfold letter at e2
  omega
theorem nameC_inj {s : Nat} {tl : List Nat} (h : TailOk7 tl) {i j r t : Nat} (hi : i < 40) (hj : j < 40) (hij : i < j) (e : nameC s tl i r = nameC s tl j t) : False := by
  have e2 : letter (s + 5 * i) = letter (s + 5 * j) := by
    have := congrArg (fun l : List Nat => l[0]?) e
    exact Option.some.inj this
  unfold letter at e2
  have e3 : j = i + 26 := by omega
  have e4 : i / 26 = 0 := by omega
  have e5 : j / 26 = 1 := by omega
  have e6 : tl.take r = [48] ++ tl.take t := by
    unfold nameC at e
    rw [e4, e5] at e
    simp only [List.replicate, List.append_nil, List.cons_append, List.nil_append, List.cons.injEq] at e
    exact e.2
  cases tl with
  | nil => have := h.len; simp at this
  | cons c u =>
    cases r with
    | zero => simp at e6
    | succ r =>
      have e7 : c = 48 := by
        have := congrArg (fun l : List Nat => l[0]?) e6
        simpa using this
      have := h.hd c rfl
      rw [e7] at this
      simp at this
section
variable {P : Program} {w : World} {K : PySem.W.Frag} {mg : Str → Option Value} {base : Heap} {c : Nat → Addr} {R  : Addr}
theorem D_many (T : Txt K mg c R ) : Def P w K mg base CX0 2 "_law_many" ["_law_box_here"] sp_lmany := by
  have D_take := D_take (P := P) (w := w) (base := base) T
  refine def_of T.d_many sc_many (fun vs H Q E h => ?_) (fun _ _ _ _ _ _ us hl => match us, hl with | [_], _ => rfl) (fun f cdv A outer s H vs Q E hr h => ?_)
  · obtain ⟨bx, x, y, z, rfl, _⟩ := h
    rfl
  · obtain ⟨bx, x, y, z, rfl, hbx, k⟩ := h
    have nd := sc_many.nd
    refine ⟨_, (pss_one (ps_ret (pe_ix ix_list (pe_lstA (pa_cons pe_int (pa_cons (pe_op op_add pe_int (pe_def D_take hr (pa_cons (pv 0) (pa_cons pe_int pa_nil)))) (pa_cons (pe_op op_add pe_int (pe_def D_take hr (pa_cons (pv 0) (pa_cons pe_int pa_nil)))) (pa_cons pe_int pa_nil))))) (pe_callB (call_maxN rfl) rfl T.n_max boot_max (pa_cons pe_int (pa_cons (pe_op op_sub (pe_def D_take hr (pa_cons (pv 0) (pa_cons pe_int pa_nil))) pe_int) pa_nil))) (fun _ _ => rfl)))), ?_⟩
    clear nd D_take
    rw [show start ["_law_box_here"] [.ref bx] = [some (.ref bx)] from rfl]
    try dsimp only [cx_K, cx_K2]
    have F : SH H [bx] H [(bx, .lst [.int x, .int y, .int z])] [] := SH.nil.addM List.mem_cons_self hbx rfl (by simp)
    repeat k_meth
    refine w_ixM SqA.e (by omega) (by show max 0 (r_ - 4) < (4 : Int); omega) fun v hv => ?_
    obtain ⟨g, hg, rfl⟩ : ∃ g : Nat, (16 ≤ g ∧ g ≤ 240) ∧ v = .int (g : Nat) := by
      simp only [List.mem_cons, List.not_mem_nil, or_false] at hv
      rcases hv with rfl | rfl | rfl | rfl
      · exact ⟨16, by omega, rfl⟩
      · rename_i r1 _ _ _ _ _ _ r2 _ _ _ _ _ _ _
        exact ⟨(16 + r1).toNat, by omega, by congr 1; omega⟩
      · rename_i r1 _ _ _ _ _ _ r2 _ _ _ _ _ _ _
        exact ⟨(16 + r2).toNat, by omega, by congr 1; omega⟩
      · exact ⟨240, by omega, rfl⟩
    repeat k_meth
    exact k g _ _ _ _ hg.1 hg.2 F.kpo hatC
theorem D_names (T : Txt K mg c R ) : Def P w K mg base CX0 2 "_law_names" ["_law_box_here", "_law_many_here"] sp_names := by
  have D_take := D_take (P := P) (w := w) (base := base) T
  refine def_of T.d_names sc_names (fun vs H Q E h => ?_) (fun _ _ _ _ _ _ us hl => match us, hl with | [_, _], _ => rfl) (fun f cdv A outer s H vs Q E hr h => ?_)
  · obtain ⟨bx, x, y, z, m, rfl, _⟩ := h
    rfl
  · obtain ⟨bx, x, y, z, m, rfl, hbx, h40, k⟩ := h
    have nd := sc_names.nd
    refine ⟨_, (pss_cons (ps_set (i := 2) nd rfl (Or.inr rfl) pe_str)
      (pss_cons (ps_set (i := 3) nd rfl (Or.inr rfl) (pe_op op_addS (pe_ix ix_str pe_str (pe_def D_take hr (pa_cons (pv 0) (pa_cons pe_int pa_nil))) (fun _ _ => rfl)) (pe_join pe_str (pe_comp (N := ["_law_k", "_law_box_here"]) (nt := 1) (fr := [0]) (pi_range1 rfl T.n_range (pa_cons pe_int pa_nil)) (fun _ _ _ _ => (pg_name (i := 0) (show (["_law_k", "_law_box_here"] : List Str).Nodup from by decide +kernel) rfl (Or.inl rfl))) (fun _ _ _ _ => pif_nil) (fun _ _ _ _ => (pe_ix ix_str pe_str (pe_def D_take hr (pa_cons (pv 1) (pa_cons pe_int pa_nil))) (fun _ _ => rfl)))))))
      (pss_cons (ps_set (i := 4) nd rfl (Or.inr rfl) (pe_def D_take hr (pa_cons (pv 0) (pa_cons pe_int pa_nil))))
      (pss_cons (ps_if (pt_cmpR op_eq (pe_def D_take hr (pa_cons (pv 0) (pa_cons pe_int pa_nil))) pe_int (nomark _)) (pss_one (ps_ret (pe_comp (N := ["_law_k", "_law_letters", "_law_tail", "_law_first"]) (nt := 1) (fr := [2, 3, 4]) (pi_range1 rfl T.n_range (pa_cons (pv 1) pa_nil)) (fun _ _ _ _ => (pg_name (i := 0) (show (["_law_k", "_law_letters", "_law_tail", "_law_first"] : List Str).Nodup from by decide +kernel) rfl (Or.inl rfl))) (fun _ _ _ _ => pif_nil) (fun _ _ _ _ => (pe_op op_addS (pe_ix ix_str (pv 1) (pe_op op_mod (pe_op op_add (pv 3) (pe_op op_fdiv (pv 0) pe_int)) pe_int) (fun _ _ => rfl)) (pe_slS (pv 2) (pe_op op_mod (pv 0) pe_int))))))) pss_nil)
      (pss_cons (ps_set (i := 5) nd rfl (Or.inl rfl) (pe_lstA pa_nil))
      (pss_cons (ps_for PassesOwn.never rfl (pi_range1 rfl T.n_range (pa_cons (pv 1) pa_nil)) (pg_name (i := 6) nd rfl (Or.inl rfl)) (pss_cons (ps_set (i := 7) nd rfl (Or.inl rfl) (pe_op op_addS (pe_ix ix_str (pv 2) (pe_op op_mod (pe_op op_add (pv 4) (pe_op op_mul pe_int (pv 6))) pe_int) (fun _ _ => rfl)) (pe_op op_mulS pe_str (pe_op op_fdiv (pv 6) pe_int))))
        (pss_one (ps_expr (pe_appendA (pv 5) (pe_op op_addS (pv 7) (pe_slS (pv 3) (pe_def D_take hr (pa_cons (pv 0) (pa_cons pe_int pa_nil))))))))))
      (pss_one (ps_ret (pv 5))))))))), ?_⟩
    clear nd D_take
    rw [show start ["_law_box_here", "_law_many_here", "_law_letters", "_law_tail", "_law_first", "_law_names_here", "_law_k", "_law_name"] [.ref bx, .int (m : Nat)] = [some (.ref bx), some (.int (m : Nat)), none, none, none, none, none, none] from rfl]
    try dsimp only [cx_K, cx_K2]
    have F : SH H [bx] H [(bx, .lst [.int x, .int y, .int z])] [] := SH.nil.addM List.mem_cons_self hbx rfl (by simp)
    rw [show Str.ofString "abcdefghijklmnopqrstuvwxyz" = tx (List.range' 97 26) by decide +kernel, show Str.ofString "abz" = tx [97, 98, 122] by decide +kernel, show Str.ofString "abz019q" = tx [97, 98, 122, 48, 49, 57, 113] by decide +kernel, show Str.ofString "0" = tx [48] by decide +kernel]
    repeat k_meth
    intro c0 hc0
    have hc0 := List.mem_of_getElem? hc0
    repeat k_meth
    have e26 : (List.range' 97 26).length = 26 := by simp
    refine go_compR (n := 6) (fvs := [some (.ref bx)]) (fun acc i ys H' => ∃ (cs : List Nat) (x y z : Int), cs.length = i ∧ (∀ c ∈ cs, c ∈ [97, 98, 122, 48, 49, 57, 113]) ∧ ys = cs.map (fun c => V.str (tx [c])) ∧ SH H [bx] H' [(acc, .lst ys), (bx, .lst [.int x, .int y, .int z])] []) (rda_cons rd_c rda_nil) (by decide) rfl (fun acc H' n => ⟨[], x_, y_, z_, rfl, by simp, rfl, F.newL n⟩) ?_ ?_ ?_
    · clear F
      rintro acc i ys H' ⟨cs, x, y, z, h1, _, rfl, F⟩
      exact ⟨hatC, by rw [List.length_map]; exact h1⟩
    · clear F
      rintro acc i ys H' R hi ⟨cs, x, y, z, h1, h2, rfl, F⟩ kk
      repeat k_meth
      intro c hc
      refine kk _ _ hatC ?_
      repeat k_meth
      refine ⟨cs ++ [c], _, _, _, by simp [h1], fun d hd => ?_, by simp, F⟩
      rcases List.mem_append.mp hd with hd | hd
      · exact h2 d hd
      · rw [List.mem_singleton.mp hd]
        exact List.mem_of_getElem? hc
    · clear F
      rintro acc ys H' ⟨tl0, x, y, z, h1, h2, rfl, F⟩
      repeat k_meth
      generalize htl : [c0] ++ tl0 = tl
      have tk : TailOk7 tl := by
        subst htl
        refine ⟨by simp [h1], fun c hc => ?_, fun c hc => ?_⟩
        · have : some c0 = some c := hc
          cases this
          exact hc0
        · rcases List.mem_append.mp hc with hc | hc
          · rw [List.mem_singleton.mp hc]
            simp only [List.mem_cons, List.not_mem_nil, or_false] at hc0 ⊢
            omega
          · exact h2 c hc
      have h7 := tk.len
      rename_i sh _ _ _ sh0 _ _
      refine i_dec (fun h => ?_) (fun h => ?_)
      · repeat k_meth
        refine go_map_range (n := m) (fvs := [some (.str (tx (List.range' 97 26))), some (.str (tx tl)), some (.int sh)]) (F := fun j => V.str (tx (nameA sh.toNat tl j))) (rda_cons (rd_var rfl) rda_nil) (by omega) (by omega) rfl (fun i H' hi s8 Q8 q8 => ?_) ?_
        · repeat k_meth
          intro c hc
          have e3 := letter_at (by omega) hc
          subst e3
          repeat k_meth
          have e4 : [letter (sh + (i : Int) / 8).toNat] ++ tl.take ((i : Int) % 8).toNat = nameA sh.toNat tl i := by
            unfold nameA
            rw [show (sh + (i : Int) / 8).toNat = sh.toNat + i / 8 by omega, show ((i : Int) % 8).toNat = i % 8 by omega]
          rw [e4]
          exact q8
        · repeat k_meth
          have e5 : (List.range m).map (fun j => V.str (tx (nameA sh.toNat tl j))) = ((List.range m).map (nameA sh.toNat tl)).map fun cs => V.str (tx cs) := by
            rw [List.map_map]
            rfl
          rw [e5] at F
          refine k _ _ _ _ _ _ (by simp) (fun cs hcs => ?_) (nodup_of fun i j a b hij ha hb z => ?_) F.kpo hatC hatC (F.fresh (LkL.m (o := .lst _)) (nm1 (SH.neC (F := F))))
          · obtain ⟨j, _, rfl⟩ := List.mem_map.mp hcs
            exact nameA_ok7 tk
          · have h3 := (List.getElem?_eq_some_iff.mp hb).1
            rw [List.length_map, List.length_range] at h3
            rw [List.getElem?_map, List.getElem?_range (by omega)] at ha hb
            cases ha
            cases hb
            have := nameA_inj7 h7 (by omega) (by omega) z
            omega
      · repeat k_meth
        rename Addr => nl
        rw [show ((m : Nat) : Int).toNat = m by omega]
        refine forR0_by (fun i σ' H' => ∃ (o6 o7 : Option V) (nms : List (List Nat)) (x y z : Int), σ' = [some (.ref bx), some (.int (m : Nat)), some (.str (tx (List.range' 97 26))), some (.str (tx tl)), some (.int sh), some (.ref nl), o6, o7] ∧ nms.length = i ∧ (∀ (j : Nat) cs, nms[j]? = some cs → ∃ r, r < 7 ∧ cs = nameC sh.toNat tl j r) ∧ SH H [bx] H' [(nl, .lst (nms.map fun cs => V.str (tx cs))), (bx, .lst [.int x, .int y, .int z])] []) ⟨_, _, [], _, _, _, rfl, rfl, fun j cs e => by simp at e, F.subC (L' := [(nl, .lst []), (bx, .lst [.int x_, .int y_, .int z_])])⟩ ?_ ?_
        · clear F
          rintro i σ' H' hi ⟨_, _, nms, x, y, z, rfl, hl, hn, F⟩
          repeat k_meth
          intro c hc
          have e3 := letter_at (by omega) hc
          subst e3
          repeat k_meth
          refine ⟨_, _, nms ++ [nameC sh.toNat tl i r_.toNat], x_, y_, z_, rfl, by simp [hl], fun j cs e => ?_, ?_⟩
          · by_cases hj : j < nms.length
            · rw [List.getElem?_append_left hj] at e
              exact hn j cs e
            · have hj2 := (List.getElem?_eq_some_iff.mp e).1
              rw [List.length_append, List.length_singleton] at hj2
              obtain rfl : j = i := by omega
              rw [List.getElem?_append_right (by omega), hl, Nat.sub_self] at e
              cases e
              exact ⟨r_.toNat, by omega, rfl⟩
          · have e4 : [letter (sh + 5 * (i : Int)).toNat] ++ List.replicate ((i : Int) / 26).toNat 48 ++ tl.take r_.toNat = nameC sh.toNat tl i r_.toNat := by
              unfold nameC
              rw [show (sh + 5 * (i : Int)).toNat = sh.toNat + 5 * i by omega, show ((i : Int) / 26).toNat = i / 26 by omega]
            rw [e4] at F
            rw [List.map_append]
            exact F
        · clear F
          rintro σ' H' ⟨_, _, nms, x, y, z, rfl, hl, hn, F⟩
          repeat k_meth
          refine k _ _ _ nms _ _ hl (fun cs hcs => ?_) (nodup_of fun i j a b hij ha hb z => ?_) F.kpo hatC hatC (F.fresh (LkL.m (o := .lst _)) (nm1 (SH.neC (F := F))))
          · obtain ⟨j, hj, e⟩ := List.getElem_of_mem hcs
            obtain ⟨r, hr, rfl⟩ := hn j cs (by rw [← e]; simp)
            exact nameC_ok tk hr (by omega)
          · have h3 := (List.getElem?_eq_some_iff.mp hb).1
            obtain ⟨r, hr, rfl⟩ := hn i a ha
            obtain ⟨t, ht, rfl⟩ := hn j b hb
            exact nameC_inj tk (by omega) (by omega) hij z
end
theorem pickL {v : V} {xs : List Int} {lo hi : Int} (hv : v ∈ xs.map V.int) (h : ∀ a ∈ xs, lo ≤ a ∧ a < hi) (h0 : 0 ≤ lo) : ∃ g : Nat, v = .int (g : Nat) ∧ lo ≤ (g : Int) ∧ (g : Int) < hi := by
  obtain ⟨a, ha, rfl⟩ := List.mem_map.mp hv
  have := h a ha
  exact ⟨a.toNat, by congr 1; omega, by omega, by omega⟩
theorem pickL4 {v : V} {a b c d lo hi : Int} (hv : v ∈ [V.int a, V.int b, V.int c, V.int d]) (h : 0 ≤ lo ∧ (lo ≤ a ∧ a < hi) ∧ (lo ≤ b ∧ b < hi) ∧ (lo ≤ c ∧ c < hi) ∧ (lo ≤ d ∧ d < hi)) : ∃ g : Nat, v = .int (g : Nat) ∧ lo ≤ (g : Int) ∧ (g : Int) < hi :=
  pickL (xs := [a, b, c, d]) hv (fun z hz => by
    simp only [List.mem_cons, List.not_mem_nil, or_false] at hz
    rcases hz with rfl | rfl | rfl | rfl
    · exact h.2.1
    · exact h.2.2.1
    · exact h.2.2.2.1
    · exact h.2.2.2.2) h.1
theorem lay_of {n at_ : Nat} {rs : List Rw} {nms : List (List Nat)} (h1 : at_ ≤ n) (as : Asc rs) (ok : ∀ r ∈ rs, NameOk r.nm ∧ 1 ≤ r.sz ∧ r.st + r.sz ≤ at_) (sb : (rs.map (·.nm)).Sublist nms) (nd : nms.Nodup) (h40 : nms.length ≤ 40) : Lay n rs := by
  refine ⟨fun r hr => ⟨(ok r hr).1, (ok r hr).2.1, by have := (ok r hr).2.2; omega⟩, ?_, ?_⟩
  · have h2 : rs.Pairwise fun r s => r.nm ≠ s.nm := List.pairwise_map.mp (nd.sublist sb)
    exact h2.imp₂ (fun a b h3 h4 => ⟨h3, .inl h4⟩) as
  · have := sb.length_le
    rw [List.length_map] at this
    omega
theorem asc_snoc {rs : List Rw} {r : Rw} {at_ : Nat} (h : Asc rs) (ok : ∀ s ∈ rs, s.st + s.sz ≤ at_) (hr : at_ ≤ r.st) : Asc (rs ++ [r]) := by
  unfold Asc
  rw [List.pairwise_append]
  refine ⟨h, List.pairwise_singleton _ _, fun a ha b hb => ?_⟩
  rw [List.mem_singleton.mp hb]
  have := ok a ha
  omega
theorem rowsV_snoc (rs : List Rw) (r : Rw) : rowsV (rs ++ [r]) = rowsV rs ++ [rowV r] := by unfold rowsV; rw [List.map_append]; rfl
theorem while_m {c : TT} {tb : TS} {D : Ends} {σ : L2.St} {H : Hp} (Pv : Nat → L2.St → Hp → Prop) (h0 : ∃ m, Pv m σ H)
    (hs : ∀ m σ H, Pv m σ H → c σ H fun b H1 => if b = true then ∃ N : L2.St → Hp → Prop, (∀ σ' H', N σ' H' → ∃ m', m' < m ∧ Pv m' σ' H') ∧ tb { D with nx := N, ct := N, bk := D.nx } σ H1 else D.nx σ H1) : tWhile c tb D σ H := ⟨Pv, h0, hs⟩
theorem perm_erase {α : Type} {ls : List α} {i : Nat} {r : α} (h : ls[i]? = some r) : (ls.eraseIdx i ++ [r]).Perm ls := by
  induction ls generalizing i with
  | nil => simp at h
  | cons a t ih =>
    cases i with
    | zero =>
      simp at h
      subst h
      exact List.perm_append_comm
    | succ i => exact (ih (by simpa using h)).cons a
section
variable {P : Program} {w : World} {K : PySem.W.Frag} {mg : Str → Option Value} {base : Heap} {c : Nat → Addr} {R  : Addr}
theorem D_rows (T : Txt K mg c R ) : Def P w K mg base CX0 3 "_law_rows" ["_law_box_here", "_law_many_here"] sp_lrows := by
  have D_names := D_names (P := P) (w := w) (base := base) T
  have D_take := D_take (P := P) (w := w) (base := base) T
  refine def_of T.d_rows sc_rows (fun vs H Q E h => ?_) (fun _ _ _ _ _ _ us hl => match us, hl with | [_, _], _ => rfl) (fun f cdv A outer s H vs Q E hr h => ?_)
  · obtain ⟨bx, x, y, z, n, rfl, _⟩ := h
    rfl
  · obtain ⟨bx, x, y, z, n, rfl, hbx, h16, h240, k⟩ := h
    have nd := sc_rows.nd
    refine ⟨_, (pss_cons (ps_set (i := 2) nd rfl (Or.inl rfl) (pe_ix ix_list (pe_lstA (pa_cons (pe_def D_take hr (pa_cons (pv 0) (pa_cons pe_int pa_nil))) (pa_cons pe_int pa_nil))) (pe_callTy call_intN rfl T.n_int boot_int (pa_cons (pe_cmpR op_eq (pe_def D_take hr (pa_cons (pv 0) (pa_cons pe_int pa_nil))) pe_int (nomark _)) pa_nil)) (fun _ _ => rfl)))
      (pss_cons (ps_set (i := 3) nd rfl (Or.inl rfl) (pe_def D_names hr (pa_cons (pv 0) (pa_cons (pv 2) pa_nil))))
      (pss_cons (ps_set (i := 4) nd rfl (Or.inl rfl) (pe_def D_take hr (pa_cons (pv 0) (pa_cons pe_int pa_nil))))
      (pss_cons (ps_set (i := 5) nd rfl (Or.inl rfl) (pe_lstA pa_nil))
      (pss_cons (ps_set (i := 6) nd rfl (Or.inl rfl) pe_int)
      (pss_cons (ps_for PassesOwn.never rfl (pi_range1 rfl T.n_range (pa_cons (pv 2) pa_nil)) (pg_name (i := 7) nd rfl (Or.inl rfl)) (pss_cons (ps_set (i := 8) nd rfl (Or.inl rfl) (pe_op op_sub (pv 1) (pv 6)))
        (pss_one (ps_if (pt_cmpR op_gt (pv 8) pe_int (nomark _)) (pss_cons (ps_set (i := 9) nd rfl (Or.inl rfl) (pe_def D_take hr (pa_cons (pv 0) (pa_cons (pe_callB (call_minN rfl) rfl T.n_min boot_min (pa_cons (pv 8) (pa_cons pe_int pa_nil))) pa_nil))))
          (pss_cons (ps_set (i := 10) nd rfl (Or.inl rfl) (pe_def D_take hr (pa_cons (pv 0) (pa_cons (pv 8) pa_nil))))
          (pss_cons (ps_set (i := 11) nd rfl (Or.inl rfl) (pe_ix ix_list (pe_lstA (pa_cons pe_int (pa_cons pe_int (pa_cons (pv 9) (pa_cons (pv 10) pa_nil))))) (pe_def D_take hr (pa_cons (pv 0) (pa_cons pe_int pa_nil))) (fun _ _ => rfl)))
          (pss_cons (ps_set (i := 12) nd rfl (Or.inl rfl) (pe_ix ix_list (pe_lstA (pa_cons pe_int (pa_cons pe_int (pa_cons pe_int (pa_cons pe_int pa_nil))))) (pe_def D_take hr (pa_cons (pv 0) (pa_cons pe_int pa_nil))) (fun _ _ => rfl)))
          (pss_cons (ps_set (i := 13) nd rfl (Or.inl rfl) (pe_op op_add pe_int (pe_def D_take hr (pa_cons (pv 0) (pa_cons (pe_callB (call_minN rfl) rfl T.n_min boot_min (pa_cons (pe_op op_sub (pv 8) (pv 11)) (pa_cons (pv 12) pa_nil))) pa_nil)))))
          (pss_cons (ps_set (i := 14) nd rfl (Or.inl rfl) (pe_op op_mul (pe_op op_add pe_int (pe_def D_take hr (pa_cons (pv 0) (pa_cons pe_int pa_nil)))) (pe_callTy call_intN rfl T.n_int boot_int (pa_cons (pe_and (pe_cmpR op_eq (pe_def D_take hr (pa_cons (pv 0) (pa_cons pe_int pa_nil))) pe_int (nomark _)) (pe_one (pe_cmpR op_gt (pv 4) pe_int (nomark _)))) pa_nil))))
          (pss_cons (ps_expr (pe_appendA (pv 5) (pe_tupA (pa_cons (pe_ix ix_list (pv 3) (pv 7) (fun _ _ => rfl)) (pa_cons (pe_op op_add (pv 6) (pv 11)) (pa_cons (pv 13) (pa_cons (pv 14) pa_nil)))))))
          (pss_one (ps_set (i := 6) nd rfl (Or.inl rfl) (pe_op op_add (pe_op op_add (pv 6) (pv 11)) (pv 13))))))))))) pss_nil))))
      (pss_one (ps_ret (pv 5))))))))), ?_⟩
    clear nd D_names D_take
    rw [show start ["_law_box_here", "_law_many_here", "_law_most", "_law_names_here", "_law_pinned", "_law_rows_here", "_law_at", "_law_k", "_law_left", "_law_near", "_law_far", "_law_gap", "_law_wide", "_law_size", "_law_pins"] [.ref bx, .int (n : Nat)] = [some (.ref bx), some (.int (n : Nat)), none, none, none, none, none, none, none, none, none, none, none, none, none] from rfl]
    try dsimp only [cx_K, cx_K2]
    have F : SH H [bx] H [(bx, .lst [.int x, .int y, .int z])] [] := SH.nil.addM List.mem_cons_self hbx rfl (by simp)
    repeat k_meth
    have hidx : 0 ≤ (if decide (r_ = 0) = true then (1 : Int) else 0) ∧ (if decide (r_ = 0) = true then (1 : Int) else 0) < 2 := by split <;> omega
    refine w_ixM SqA.e hidx.1 hidx.2 fun v hv => ?_
    obtain ⟨m, rfl, hm0, hm⟩ := pickL (lo := 0) (hi := 41) (xs := [_, 40]) hv (fun a ha => by
      simp only [List.mem_cons, List.not_mem_nil, or_false] at ha
      rcases ha with rfl | rfl <;> omega) (by omega)
    clear hv hidx
    repeat k_meth
    intro nms nl nk nn
    repeat k_meth
    rename Addr => rwA
    have ⟨pd, hpd⟩ : ∃ pd, pd = r_ := ⟨_, rfl⟩
    rw [← hpd]
    rw [show ((m : Nat) : Int).toNat = m by omega]
    refine forR0_by (fun i σ' H' => ∃ (o7 o8 o9 o10 o11 o12 o13 o14 : Option V) (at_ : Nat) (rs : List Rw) (ys : List V) (x y z : Int), σ' = [some (.ref bx), some (.int (n : Nat)), some (.int (m : Nat)), some (.ref p_), some (.int pd), some (.ref rwA), some (.int (at_ : Nat)), o7, o8, o9, o10, o11, o12, o13, o14] ∧ at_ ≤ n ∧ Asc rs ∧ (∀ r ∈ rs, NameOk r.nm ∧ 1 ≤ r.sz ∧ r.st + r.sz ≤ at_) ∧ (rs.map (·.nm)).Sublist (nms.take i) ∧ ys.length = rs.length ∧ SH H [bx] H' [(rwA, .lst ys), (p_, .lst (nms.map fun cs => V.str (tx cs))), (bx, .lst [.int x, .int y, .int z])] [.tps ys (rowsV rs)]) ⟨_, _, _, _, _, _, _, _, 0, [], [], x_, y_, z_, rfl, Nat.zero_le _, List.Pairwise.nil, by simp, List.nil_sublist _, rfl, (F.addP (ys := []) (rs := rowsV []) TupsAt.nil).sub SbC.s (by simp)⟩ ?_ ?_
    · clear F hpd lo_ hi_
      rintro i σ' H' hi ⟨_, _, _, _, _, _, _, _, at_, rs, ys, x, y, z, rfl, hat, as, ok, sb, yl, F⟩
      obtain ⟨nm0, hnm⟩ : ∃ nm0, nms[i]? = some nm0 := ⟨nms[i]'(by omega), by simp⟩
      have a1 : AtI (nms.map fun cs => V.str (tx cs)) (i : Int) (.str (tx nm0)) := ⟨atI_nat (by rw [List.getElem?_map, hnm]; rfl)⟩
      have tkn : nms.take (i + 1) = nms.take i ++ [nm0] := by rw [List.take_succ, hnm]; rfl
      have few : rs.length ≤ 40 := by
        have := sb.length_le
        rw [List.length_map, List.length_take] at this
        omega
      repeat k_meth
      refine i_dec (fun h => ?_) (fun h => ?_)
      · repeat k_meth
        refine w_ixM SqA.e lo_ hi_ fun v hv => ?_
        obtain ⟨g, rfl, hg0, hg⟩ := pickL4 (lo := 0) (hi := (n : Int) - (at_ : Int)) hv (by omega)
        clear hv
        repeat k_meth
        refine w_ixM SqA.e lo_ hi_ fun v hv => ?_
        obtain ⟨wd, rfl, hw0, hw⟩ := pickL4 (lo := 1) (hi := 241) hv (by omega)
        clear hv
        repeat k_meth
        rename_i zz _ _ _ zlo zhi _ r1 _ _ _ r1lo r1hi _
        obtain ⟨z1, rfl⟩ : ∃ z1 : Nat, zz = (z1 : Int) := ⟨zz.toNat, by omega⟩
        refine i_dec (fun h0 => ?_) (fun h0 => ?_)
        · repeat k_meth
          rename Addr => tq
          obtain ⟨pn, hpn⟩ : ∃ pn : Nat, (1 + r1) * (if decide (pd > 0) = true then (1 : Int) else 0) = (pn : Int) := ⟨((1 + r1) * (if decide (pd > 0) = true then (1 : Int) else 0)).toNat, by have : 0 ≤ (1 + r1) * (if decide (pd > 0) = true then (1 : Int) else 0) := Int.mul_nonneg (by omega) (by split <;> omega); omega⟩
          rw [hpn] at F ⊢
          rw [show [V.str (tx nm0), V.int ((at_ : Int) + (g : Int)), V.int (1 + (z1 : Int)), V.int (pn : Int)] = rowV ⟨nm0, at_ + g, 1 + z1, pn⟩ by simp [rowV]] at F
          have F2 := SH.app (ys := ys) (rs := rowsV rs) (q := tq) (r := rowV ⟨nm0, at_ + g, 1 + z1, pn⟩) F (LkP.m) (LkI.m)
          rw [← rowsV_snoc] at F2
          rw [show (at_ : Int) + (g : Int) + (1 + (z1 : Int)) = ((at_ + g + (1 + z1) : Nat) : Int) by omega]
          refine ⟨_, _, _, _, _, _, _, _, at_ + g + (1 + z1), rs ++ [⟨nm0, at_ + g, 1 + z1, pn⟩], ys ++ [.ref tq], x_, y_, z_, rfl, by omega, asc_snoc as (fun s hs => (ok s hs).2.2) (by show at_ ≤ at_ + g; omega), fun s hs => ?_, ?_, by simp [yl], F2.sub SbC.s (by simp)⟩
          · rcases List.mem_append.mp hs with hs | hs
            · have := ok s hs
              exact ⟨this.1, this.2.1, by omega⟩
            · rw [List.mem_singleton.mp hs]
              exact ⟨nk _ (List.mem_of_getElem? hnm), by show 1 ≤ 1 + z1; omega, by show at_ + g + (1 + z1) ≤ _; omega⟩
          · rw [List.map_append, tkn]
            exact List.Sublist.append sb (List.Sublist.refl _)
        · repeat k_meth
          rename Addr => tq
          obtain ⟨pn, hpn⟩ : ∃ pn : Nat, (1 + r1) * (if false = true then (1 : Int) else 0) = (pn : Int) := ⟨((1 + r1) * (if false = true then (1 : Int) else 0)).toNat, by have : 0 ≤ (1 + r1) * (if false = true then (1 : Int) else 0) := Int.mul_nonneg (by omega) (by split <;> omega); omega⟩
          rw [hpn] at F ⊢
          rw [show [V.str (tx nm0), V.int ((at_ : Int) + (g : Int)), V.int (1 + (z1 : Int)), V.int (pn : Int)] = rowV ⟨nm0, at_ + g, 1 + z1, pn⟩ by simp [rowV]] at F
          have F2 := SH.app (ys := ys) (rs := rowsV rs) (q := tq) (r := rowV ⟨nm0, at_ + g, 1 + z1, pn⟩) F (LkP.m) (LkI.m)
          rw [← rowsV_snoc] at F2
          rw [show (at_ : Int) + (g : Int) + (1 + (z1 : Int)) = ((at_ + g + (1 + z1) : Nat) : Int) by omega]
          refine ⟨_, _, _, _, _, _, _, _, at_ + g + (1 + z1), rs ++ [⟨nm0, at_ + g, 1 + z1, pn⟩], ys ++ [.ref tq], x_, y_, z_, rfl, by omega, asc_snoc as (fun s hs => (ok s hs).2.2) (by show at_ ≤ at_ + g; omega), fun s hs => ?_, ?_, by simp [yl], F2.sub SbC.s (by simp)⟩
          · rcases List.mem_append.mp hs with hs | hs
            · have := ok s hs
              exact ⟨this.1, this.2.1, by omega⟩
            · rw [List.mem_singleton.mp hs]
              exact ⟨nk _ (List.mem_of_getElem? hnm), by show 1 ≤ 1 + z1; omega, by show at_ + g + (1 + z1) ≤ _; omega⟩
          · rw [List.map_append, tkn]
            exact List.Sublist.append sb (List.Sublist.refl _)
      · repeat k_meth
        exact ⟨_, _, _, _, _, _, _, _, at_, rs, ys, x, y, z, rfl, hat, as, ok, sb.trans (by rw [tkn]; exact List.sublist_append_left _ _), yl, F⟩
    · clear F
      rintro σ' H' ⟨_, _, _, _, _, _, _, _, at_, rs, ys, x, y, z, rfl, hat, as, ok, sb, yl, F⟩
      repeat k_meth
      exact k _ _ _ rs _ ys _ (lay_of hat as ok sb (nn.sublist (List.take_sublist _ _)) (by rw [List.length_take]; omega)) as F.kpo hatC hatC TpA.e (F.fresh (LkL.m (o := .lst _)) (nm1 (SH.neC (F := F))))
end
def rowsP (ps : List (V × V)) : List (List V) := ps.map fun p => [p.1, p.2]
def vP (c : Nat × Nat) : V × V := (V.int (c.1 : Nat), V.int (c.2 : Nat))
abbrev rowsN (cs : List (Nat × Nat)) : List (List V) := rowsP (cs.map vP)
theorem rowsP_at {H : Hp} {ps : List (V × V)} {ys : List V} {i : Nat} {v : V} (h : TupsAt H ys (rowsP ps)) (e : ys[i]? = some v) : ∃ w q, ps[i]? = some w ∧ v = .ref q ∧ H q = some (.tup [w.1, w.2]) := by
  obtain ⟨r, q, e1, e2, e3⟩ := tups_at h e
  unfold rowsP at e1
  rw [List.getElem?_map] at e1
  cases e4 : ps[i]? with
  | none => rw [e4] at e1; cases e1
  | some w => rw [e4] at e1; cases e1; exact ⟨w, q, rfl, e2, e3⟩
theorem rowsN_at {H : Hp} {cs : List (Nat × Nat)} {ys : List V} {i : Nat} {v : V} (h : TupsAt H ys (rowsN cs)) (e : ys[i]? = some v) : ∃ c q, cs[i]? = some c ∧ v = .ref q ∧ H q = some (.tup [.int (c.1 : Nat), .int (c.2 : Nat)]) := by
  obtain ⟨w, q, e1, e2, e3⟩ := rowsP_at h e
  rw [List.getElem?_map] at e1
  cases e4 : cs[i]? with
  | none => rw [e4] at e1; cases e1
  | some c => rw [e4] at e1; cases e1; exact ⟨c, q, rfl, e2, e3⟩
theorem rowsP_len {H : Hp} {ps : List (V × V)} {ys : List V} (h : TupsAt H ys (rowsP ps)) : ys.length = ps.length := by rw [h.1]; unfold rowsP; rw [List.length_map]
def do1 (xs : List V) (c : Nat × Nat) : List V := xs.set c.2 (xs.getD c.1 .non)
def doN (xs : List V) (cs : List (Nat × Nat)) : List V := cs.foldl do1 xs
theorem do1_len {xs : List V} {c : Nat × Nat} : (do1 xs c).length = xs.length := by unfold do1; rw [List.length_set]
theorem doN_len {xs : List V} {cs : List (Nat × Nat)} : (doN xs cs).length = xs.length := by
  induction cs generalizing xs with
  | nil => rfl
  | cons c cs ih => exact (ih (xs := do1 xs c)).trans do1_len
theorem doN_app {xs : List V} {as bs : List (Nat × Nat)} : doN xs (as ++ bs) = doN (doN xs as) bs := List.foldl_append
theorem doN_take {xs : List V} {cs : List (Nat × Nat)} {i : Nat} {c : Nat × Nat} (e : cs[i]? = some c) : doN xs (cs.take (i + 1)) = do1 (doN xs (cs.take i)) c := by
  rw [List.take_succ, e, doN_app]
  rfl
theorem dd0 {i b : Nat} (h : i ≤ b) : (decide ((0 : Int) ≤ ((i : Nat) : Int)) && decide (((i : Nat) : Int) ≤ ((b : Nat) : Int))) = true := by
  rw [decide_eq_true (show (0 : Int) ≤ (i : Int) by omega), decide_eq_true (show (i : Int) ≤ (b : Int) by omega)]
  rfl
theorem dd1 {i a b : Nat} (h1 : a ≤ i) (h : i ≤ b) : (decide (((a : Nat) : Int) ≤ ((i : Nat) : Int)) && decide (((i : Nat) : Int) ≤ ((b : Nat) : Int))) = true := by
  rw [decide_eq_true (show (a : Int) ≤ (i : Int) by omega), decide_eq_true (show (i : Int) ≤ (b : Int) by omega)]
  rfl
def sp_docopies : Sp := fun vs H Q _ => ∃ (a l : Addr) (xs ys : List V) (cs : List (Nat × Nat)), vs = [.ref a, .ref l] ∧ H a = some (.lst xs) ∧ H l = some (.lst ys) ∧ a ≠ l ∧ TupsAt H ys (rowsN cs) ∧ (∀ c ∈ cs, c.1 < xs.length ∧ c.2 < xs.length) ∧ ∀ H', Kp a H H' → H' a = some (.lst (doN xs cs)) → Q .non H'
inductive MkBad (n : Nat) : V → V → V → Prop
  | one {f b : V} : inB f 0 (n : Nat) = false → MkBad n f b f
  | two {i : Nat} {b : V} : i ≤ n → b ≠ .non → inB b (i : Nat) (n : Nat) = false → MkBad n (.int (i : Nat)) b b
inductive MkOk (n : Nat) : V → V → Nat → Nat → Prop
  | all {i : Nat} : i ≤ n → MkOk n (.int (i : Nat)) .non i n
  | to {i j : Nat} : i ≤ j → j ≤ n → MkOk n (.int (i : Nat)) (.int (j : Nat)) i j
def sp_needmarks (K : PySem.W.Frag) (CN : Addr) : Sp := fun vs H Q E => ∃ (l : Addr) (ys : List V) (f b : V) (tf tb : String), vs = [.ref l, f, b] ∧ H l = some (.lst ys) ∧ TyOf K H f (.type tf) ∧ TyOf K H b (.type tb) ∧
  ((∃ i j, MkOk ys.length f b i j ∧ ∀ H', Same H H' → Q .non H') ∨ (∃ v, MkBad ys.length f b v ∧ ∀ dx H', Same H H' → H' dx = some (dctO dx [("at", v)]) → E (.ref CN) (some dx) H'))
section
variable {P : Program} {w : World} {K : PySem.W.Frag} {mg : Str → Option Value} {base : Heap} {c : Nat → Addr} {R  : Addr}
theorem D_docopies (T : Txt K mg c R ) : Def P w K mg base CX0 1 "do_copies" ["cells", "copies"] sp_docopies := by
  refine def_of T.d_docopies sc_docopies (fun vs H Q E h => ?_) (fun _ _ _ _ _ _ us hl => match us, hl with | [_, _], _ => rfl) (fun f cdv A outer s H vs Q E hr h => ?_)
  · obtain ⟨a, l, xs, ys, cs, rfl, _⟩ := h
    rfl
  · obtain ⟨a, l, xs, ys, cs, rfl, ha, hl, nal, tp, hin, k⟩ := h
    have nd := sc_docopies.nd
    refine ⟨_, (pss_one (ps_for PassesOwn.never rfl (pi_list (pv 1)) (pg_tup rfl (pgs_cons (pg_name (i := 2) nd rfl (Or.inl rfl)) (pgs_cons (pg_name (i := 3) nd rfl (Or.inl rfl)) pgs_nil))) (pss_one (ps_asg (pe_ix ix_list (pv 0) (pv 2) (fun _ _ => rfl)) (pg_sub (pv 0) (pv 3) set_listA))))), ?_⟩
    clear nd 
    rw [show start ["cells", "copies", "source", "target"] [.ref a, .ref l] = [some (.ref a), some (.ref l), none, none] from rfl]
    try dsimp only [cx_K, cx_K2]
    have F : SH H [a] H [(a, .lst xs)] [.tps ys (rowsN cs)] := (SH.nil.addM List.mem_cons_self ha rfl (by simp)).addP tp
    have o_hl := Old.mk (M := [a]) hl (nm1 (Ne.symm nal))
    repeat k_meth
    refine forL_by (xs := ys) (fun i σ' H' => ∃ (o2 o3 : Option V), σ' = [some (.ref a), some (.ref l), o2, o3] ∧ SH H [a] H' [(a, .lst (doN xs (cs.take i)))] [.tps ys (rowsN cs)]) ⟨_, _, rfl, F⟩ ?_ ?_ ?_
    · clear F
      rintro i σ' H' _ ⟨_, _, rfl, F⟩
      exact SqA.e
    · clear F
      rintro i v σ' H' hv ⟨_, _, rfl, F⟩
      obtain ⟨c, q1, e1, rfl, e2⟩ := rowsN_at (H := H') (cs := cs) TpA.e hv
      have hc := hin c (List.mem_of_getElem? e1)
      have hlen : (doN xs (cs.take i)).length = xs.length := doN_len
      have a1 : AtI (doN xs (cs.take i)) ((c.1 : Nat) : Int) ((doN xs (cs.take i)).getD c.1 .non) := ⟨atI_nat (by rw [List.getD_eq_getElem?_getD, List.getElem?_eq_getElem (by omega)]; rfl)⟩
      replace F := F.addT e2
      repeat k_meth
      refine ⟨_, _, rfl, ?_⟩
      rw [doN_take e1]
      have F2 := F.sub (L' := [(a, .lst ((doN xs (cs.take i)).set ((c.2 : Nat) : Int).toNat ((doN xs (cs.take i)).getD c.1 .non)))]) (I' := [.tps ys (rowsN cs)]) SbC.s (by simp)
      exact F2
    · clear F
      rintro σ' H' ⟨_, _, rfl, F⟩
      rw [show ys.length = cs.length by rw [rowsP_len tp, List.length_map], List.take_length] at F
      repeat k_meth
      exact k _ F.kpo hatC
theorem D_needmarks (T : Txt K mg c R ) : Def P w K mg base (CX1 P w) 3 "need_marks" ["copies", "first", "behind"] (sp_needmarks K (c 0)) := by
  have D_is_within := D_is_within (P := P) (w := w) (base := base) T
  refine def_ofX T.d_needmarks sc_needmarks (fun vs H Q E h => ?_) (fun _ _ _ _ _ _ us hl => match us, hl with | [_, _, _], _ => rfl) (fun f cdv A outer s H vs Q E hr h => ?_)
  · obtain ⟨l, ys, f, b, tf, tb, rfl, _⟩ := h
    rfl
  · obtain ⟨l, ys, f, b, tf, tb, rfl, hl, ty1, ty2, kk⟩ := h
    have nd := sc_needmarks.nd
    refine ⟨_, (pss_cons (ps_if (pt_not (pt_val (pe_def D_is_within hr (pa_cons (pv 1) (pa_cons pe_int (pa_cons (pe_callB call_lenN rfl T.n_len boot_len (pa_cons (pv 0) pa_nil)) pa_nil)))))) (pss_one (ps_raise T.k_NoPlace (pe_ex1N T.e_NoPlace (I_NoPlace T.e_NoPlace.S T.a_NoPlace_at) hr (pa_cons (pv 1) pa_nil)))) pss_nil)
      (pss_one (ps_if (PW.pt (pw_and (pt_cmpR op_notNN (pv 2) pe_non (nomark _)) (pw_and1 (pt_not (pt_val (pe_def D_is_within hr (pa_cons (pv 2) (pa_cons (pv 1) (pa_cons (pe_callB call_lenN rfl T.n_len boot_len (pa_cons (pv 0) pa_nil)) pa_nil))))))))) (pss_one (ps_raise T.k_NoPlace (pe_ex1N T.e_NoPlace (I_NoPlace T.e_NoPlace.S T.a_NoPlace_at) hr (pa_cons (pv 2) pa_nil)))) pss_nil))), ?_⟩
    clear nd D_is_within
    rw [show start ["copies", "first", "behind"] [.ref l, f, b] = [some (.ref l), some (f), some (b)] from rfl]
    try dsimp only [cx_K, cx_K2, cx_s0]
    have o_hl := Old.mk (M := []) hl nm0
    have F : SH H [] H [] [] := SH.nil
    have o_f : OldT K H [] f tf := ⟨ty1, fun _ _ z => by cases z⟩
    have o_b : OldT K H [] b tb := ⟨ty2, fun _ _ z => by cases z⟩
    rcases kk with ⟨i, j, ok, k⟩ | ⟨v, bad, k⟩
    · cases ok with
      | all hi =>
        repeat k_meth
        rw [dd0 hi]
        repeat k_meth
        exact k _ F.sm
      | to hi hj =>
        repeat k_meth
        rw [dd0 (Nat.le_trans hi hj)]
        repeat k_meth
        rw [dd1 hi hj]
        repeat k_meth
        exact k _ F.sm
    · cases bad with
      | one hb =>
        repeat k_meth
        rw [hb]
        repeat k_meth
        exact fun dx H' s e => k dx H' (F.sm.trans s) e
      | two hi nb hb =>
        repeat k_meth
        rw [dd0 hi]
        repeat k_meth
        refine ⟨rfl, ?_⟩
        rw [decide_eq_false nb]
        repeat k_meth
        rw [hb]
        repeat k_meth
        exact fun dx H' s e => k dx H' (F.sm.trans s) e
end
def Tyd (K : PySem.W.Frag) (H : Hp) (v : V) : Prop := ∃ n, TyOf K H v (.type n)
inductive Car (m : Nat) (ps : List (V × V)) (f b : V) : List (Nat × Nat) ⊕ V → Prop
  | ok {i j : Nat} {cs : List (Nat × Nat)} : MkOk ps.length f b i j → (ps.drop i).take (j - i) = cs.map vP → (∀ c ∈ cs, c.1 < m ∧ c.2 < m) → Car m ps f b (.inl cs)
  | mark {v : V} : MkBad ps.length f b v → Car m ps f b (.inr v)
  | one {i j : Nat} {cs : List (Nat × Nat)} {x y : V} {rest : List (V × V)} : MkOk ps.length f b i j → (ps.drop i).take (j - i) = cs.map vP ++ (x, y) :: rest → (∀ c ∈ cs, c.1 < m ∧ c.2 < m) → inB x 0 ((m : Nat) - 1) = false → Car m ps f b (.inr x)
  | two {i j k : Nat} {cs : List (Nat × Nat)} {y : V} {rest : List (V × V)} : MkOk ps.length f b i j → (ps.drop i).take (j - i) = cs.map vP ++ (V.int (k : Nat), y) :: rest → (∀ c ∈ cs, c.1 < m ∧ c.2 < m) → k < m → inB y 0 ((m : Nat) - 1) = false → Car m ps f b (.inr y)
def sp_carried (K : PySem.W.Frag) (CN : Addr) : Sp := fun vs H Q E => ∃ (a l : Addr) (xs ys : List V) (ps : List (V × V)) (f b : V) (tf tb : String), vs = [.ref a, .ref l, f, b] ∧ H a = some (.lst xs) ∧ H l = some (.lst ys) ∧ TupsAt H ys (rowsP ps) ∧ xs.length ≤ 1000 ∧ TyOf K H f (.type tf) ∧ TyOf K H b (.type tb) ∧ (∀ p ∈ ps, Tyd K H p.1 ∧ Tyd K H p.2) ∧
  ((∃ cs, Car xs.length ps f b (.inl cs) ∧ ∀ p H', New H H' p (.lst (doN xs cs)) → Q (.ref p) H') ∨ (∃ v, Car xs.length ps f b (.inr v) ∧ ∀ dx H', Same H H' → H' dx = some (dctO dx [("at", v)]) → E (.ref CN) (some dx) H'))
class MkO (n : Nat) (f b : V) : Prop where
  e : ∃ i j, MkOk n f b i j
class MkB (n : Nat) (f b : V) (v : outParam V) : Prop where
  e : MkBad n f b v
section
variable {K : PySem.W.Frag} {CN l a : Addr} {H H0 : Hp} {Q : VK} {E : XK} {ys xs : List V} {f b v : V} {tf tb : String} {cs : List (Nat × Nat)} {M : List Addr} {L : List (Addr × HO)} {I : List Im}
instance go_needO [h : Hat H l (.lst ys)] [t1 : TyA K H f tf] [t2 : TyA K H b tb] [ok : MkO ys.length f b] : Go (sp_needmarks K CN [.ref l, f, b] H Q E) (∀ H', Same H H' → Q .non H') := ⟨fun k => ⟨l, ys, f, b, tf, tb, rfl, h.e, t1.e, t2.e, .inl ⟨ok.e.choose, ok.e.choose_spec.choose, ok.e.choose_spec.choose_spec, k⟩⟩⟩
instance go_needB [h : Hat H l (.lst ys)] [t1 : TyA K H f tf] [t2 : TyA K H b tb] [bd : MkB ys.length f b v] : Go (sp_needmarks K CN [.ref l, f, b] H Q E) (∀ dx H', Same H H' → H' dx = some (dctO dx [("at", v)]) → E (.ref CN) (some dx) H') := ⟨fun k => ⟨l, ys, f, b, tf, tb, rfl, h.e, t1.e, t2.e, .inr ⟨v, bd.e, k⟩⟩⟩
instance go_docopies [h : Hat H a (.lst xs)] [h2 : Hat H l (.lst ys)] [t : TpA H ys (rowsN cs)] [F : SH H0 M H L I] [ne : LkNe L a l] : Go (sp_docopies [.ref a, .ref l] H Q E) ((∀ c ∈ cs, c.1 < xs.length ∧ c.2 < xs.length) ∧ ∀ H', Kp a H H' → H' a = some (.lst (doN xs cs)) → Q .non H') := ⟨fun k => ⟨a, l, xs, ys, cs, rfl, h.e, h2.e, ne.ne F.nd, t.e, k.1, k.2⟩⟩
end
theorem dd2 {k m : Nat} (h : k < m) : (decide ((0 : Int) ≤ ((k : Nat) : Int)) && decide (((k : Nat) : Int) ≤ ((m : Nat) : Int) - 1)) = true := by
  rw [decide_eq_true (show (0 : Int) ≤ (k : Int) by omega), decide_eq_true (show (k : Int) ≤ (m : Int) - 1 by omega)]
  rfl
theorem two_at {c : Nat × Nat} {m j : Nat} {v : V} (h : c.1 < m ∧ c.2 < m) (hv : [V.int (c.1 : Nat), V.int (c.2 : Nat)][j]? = some v) : ∃ k : Nat, v = .int (k : Nat) ∧ k < m := by
  match j, hv with
  | 0, hv => cases hv; exact ⟨c.1, rfl, h.1⟩
  | 1, hv => cases hv; exact ⟨c.2, rfl, h.2⟩
  | j + 2, hv => simp at hv
theorem cut_mid {xs : List V} {a b : Nat} (h : a ≤ b) (hb : b ≤ xs.length) : cutV xs (some (a : Int)) (some (b : Int)) = (xs.drop a).take (b - a) := by
  unfold cutV
  rw [HT.sIx_nat, HT.sIx_nat, show min a xs.length = a by omega, show min b xs.length = b by omega]
theorem tupsP_cut {H : Hp} {ys : List V} {ps : List (V × V)} (i n : Nat) (h : TupsAt H ys (rowsP ps)) : TupsAt H ((ys.drop i).take n) (rowsP ((ps.drop i).take n)) := by
  have hl := rowsP_len h
  refine ⟨by unfold rowsP; simp [hl], fun j r e => ?_⟩
  unfold rowsP at e
  rw [List.getElem?_map, List.getElem?_take] at e
  split at e
  · rename_i hj
    rw [List.getElem?_drop] at e
    obtain ⟨q, a, b⟩ := h.2 (i + j) r (by unfold rowsP; rw [List.getElem?_map]; exact e)
    exact ⟨q, by rw [List.getElem?_take, if_pos hj, List.getElem?_drop]; exact a, b⟩
  · cases e
section
variable {P : Program} {w : World} {K : PySem.W.Frag} {mg : Str → Option Value} {base : Heap} {c : Nat → Addr} {R  : Addr}
theorem D_carried (T : Txt K mg c R ) : ∃ tk0 tk1 : Tok, DefD2 P w K mg base (CX1 P w) 4 "carried" ["cells", "copies", "first", "behind"] (sp_carried K (c 0)) (.int 0 tk0) .none := by
  have D_needmarks := D_needmarks (P := P) (w := w) (base := base) T
  have D_docopies := D_docopies (P := P) (w := w) (base := base) T
  have D_is_within := D_is_within (P := P) (w := w) (base := base) T
  obtain ⟨tk0, tk1, hasD⟩ := T.d_carried
  refine ⟨tk0, tk1, def_ofX2 hasD sc_carried (fun vs H Q E h => ?_) (fun tl ht _ _ _ _ _ _ _ us hl => by rcases ht with rfl | rfl | rfl <;> rcases us with _ | ⟨a, _ | ⟨b, _ | ⟨c, _ | ⟨d, _ | ⟨e, us⟩⟩⟩⟩⟩ <;> first | exact ⟨_, rfl, rfl⟩ | (exfalso; simp at hl)) (fun f cdv A outer s H vs Q E hr h => ?_)⟩
  · obtain ⟨a, l, xs, ys, ps, f, b, tf, tb, rfl, _⟩ := h
    rfl
  · obtain ⟨a, l, xs, ys, ps, f, b, tf, tb, rfl, ha, hl, tp, hz, ty1, ty2, typ, kk⟩ := h
    have nd := sc_carried.nd
    refine ⟨_, (pss_cons (ps_expr (pe_def D_needmarks hr (pa_cons (pv 1) (pa_cons (pv 2) (pa_cons (pv 3) pa_nil))) (hx := pass1)))
      (pss_cons (ps_set (i := 4) nd rfl (Or.inl rfl) (pe_ifExp (pt_cmpR op_isNN (pv 3) pe_non (nomark _)) (pe_slice sl_listA (pv 1) (po_some (pv 2)) po_none) (pe_slice sl_listA (pv 1) (po_some (pv 2)) (po_some (pv 3)))))
      (pss_cons (ps_for PassesOwn.leaving rfl (pi_list (pv 4)) (pg_name (i := 5) nd rfl (Or.inl rfl)) (pss_one (ps_for PassesOwn.leaving rfl (pi_tup (pv 5)) (pg_name (i := 6) nd rfl (Or.inl rfl)) (pss_one (ps_if (pt_not (pt_val (pe_def D_is_within hr (pa_cons (pv 6) (pa_cons pe_int (pa_cons (pe_op op_sub (pe_callB call_lenN rfl T.n_len boot_len (pa_cons (pv 0) pa_nil)) pe_int) pa_nil)))))) (pss_one (ps_raise T.k_NoPlace (pe_ex1N T.e_NoPlace (I_NoPlace T.e_NoPlace.S T.a_NoPlace_at) hr (pa_cons (pv 6) pa_nil)))) pss_nil)))))
      (PSs.nox (pss_cons (ps_set (i := 7) nd rfl (Or.inl rfl) (pe_callTy call_list_ofA rfl T.n_list boot_list (pa_cons (pv 0) pa_nil)))
      (pss_cons (ps_expr (pe_def D_docopies hr (pa_cons (pv 7) (pa_cons (pv 4) pa_nil))))
      (pss_one (ps_ret (pv 7))))))))), ?_⟩
    clear nd D_needmarks D_docopies D_is_within
    rw [show start ["cells", "copies", "first", "behind", "due", "copy", "place", "told"] [.ref a, .ref l, f, b] = [some (.ref a), some (.ref l), some (f), some (b), none, none, none, none] from rfl]
    try dsimp only [cx_K, cx_K2, cx_s0]
    have o_ha := Old.mk (M := []) ha nm0
    have o_hl := Old.mk (M := []) hl nm0
    have F : SH H [] H [] [] := SH.nil
    have o_f : OldT K H [] f tf := ⟨ty1, fun _ _ z => by cases z⟩
    have o_b : OldT K H [] b tb := ⟨ty2, fun _ _ z => by cases z⟩
    have yl := rowsP_len tp
    rcases kk with ⟨cs, car, k⟩ | ⟨v, car, k⟩
    · cases car with
      | ok mk ed hin =>
        rename_i i j
        have mo : MkO ys.length f b := ⟨i, j, by rw [yl]; exact mk⟩
        cases mk with
        | all hi =>
          repeat k_meth
          rw [cut_from, show ys.drop i = (ys.drop i).take (ps.length - i) by rw [List.take_of_length_le (by rw [List.length_drop]; omega)]] at F
          rename Addr => du
          have tz := tupsP_cut i (ps.length - i) tp
          rw [ed] at tz
          generalize (ys.drop i).take (ps.length - i) = zs at F tz
          replace F := F.addP (tz.same F.sm)
          refine forL_by (xs := zs) (fun r σ' H' => ∃ (o5 o6 : Option V), σ' = [some (.ref a), some (.ref l), some (.int (i : Nat)), some .non, some (.ref du), o5, o6, none] ∧ SH H [] H' [(du, .lst zs)] [.tps zs (rowsN cs)]) ⟨_, _, rfl, F.sub SbC.s (by simp)⟩ ?_ ?_ ?_
          · clear F
            rintro _ σ' H' _ ⟨_, _, rfl, F⟩
            exact SqA.e
          · clear F
            rintro r u σ' H' hv ⟨_, _, rfl, F⟩
            obtain ⟨c, q1, e1, rfl, e2⟩ := rowsN_at (H := H') (cs := cs) TpA.e hv
            have hc := hin c (List.mem_of_getElem? e1)
            replace F := F.addT e2
            repeat k_meth
            refine forT_by (xs := [V.int (c.1 : Nat), V.int (c.2 : Nat)]) (fun r2 σ' H' => ∃ (o6 : Option V), σ' = [some (.ref a), some (.ref l), some (.int (i : Nat)), some .non, some (.ref du), some (.ref q1), o6, none] ∧ SH H [] H' [(du, .lst zs)] [.tup q1 [V.int (c.1 : Nat), V.int (c.2 : Nat)], .tps zs (rowsN cs)]) ⟨_, rfl, F.sub SbC.s (by simp)⟩ ?_ ?_ ?_
            · clear F
              rintro _ σ' H' _ ⟨_, rfl, F⟩
              exact SqT.of hatC
            · clear F
              rintro r2 u σ' H' hv ⟨_, rfl, F⟩
              obtain ⟨k1, rfl, hk⟩ := two_at hc hv
              repeat k_meth
              rw [dd2 hk]
              repeat k_meth
              exact ⟨_, rfl, F.sub SbC.s (by simp)⟩
            · clear F
              rintro σ' H' ⟨_, rfl, F⟩
              exact ⟨_, _, rfl,  F.sub SbC.s (by simp)⟩
          · clear F
            rintro σ' H' ⟨_, _, rfl, F⟩
            repeat k_meth
            refine ⟨hin, ?_⟩
            repeat k_meth
            exact k _ _ SH.nwC
        | to hi hj =>
          repeat k_meth
          rw [cut_mid hi (by omega)] at F
          rename Addr => du
          have tz := tupsP_cut i (j - i) tp
          rw [ed] at tz
          generalize (ys.drop i).take (j - i) = zs at F tz
          replace F := F.addP (tz.same F.sm)
          refine forL_by (xs := zs) (fun r σ' H' => ∃ (o5 o6 : Option V), σ' = [some (.ref a), some (.ref l), some (.int (i : Nat)), some (.int (j : Nat)), some (.ref du), o5, o6, none] ∧ SH H [] H' [(du, .lst zs)] [.tps zs (rowsN cs)]) ⟨_, _, rfl, F.sub SbC.s (by simp)⟩ ?_ ?_ ?_
          · clear F
            rintro _ σ' H' _ ⟨_, _, rfl, F⟩
            exact SqA.e
          · clear F
            rintro r u σ' H' hv ⟨_, _, rfl, F⟩
            obtain ⟨c, q1, e1, rfl, e2⟩ := rowsN_at (H := H') (cs := cs) TpA.e hv
            have hc := hin c (List.mem_of_getElem? e1)
            replace F := F.addT e2
            repeat k_meth
            refine forT_by (xs := [V.int (c.1 : Nat), V.int (c.2 : Nat)]) (fun r2 σ' H' => ∃ (o6 : Option V), σ' = [some (.ref a), some (.ref l), some (.int (i : Nat)), some (.int (j : Nat)), some (.ref du), some (.ref q1), o6, none] ∧ SH H [] H' [(du, .lst zs)] [.tup q1 [V.int (c.1 : Nat), V.int (c.2 : Nat)], .tps zs (rowsN cs)]) ⟨_, rfl, F.sub SbC.s (by simp)⟩ ?_ ?_ ?_
            · clear F
              rintro _ σ' H' _ ⟨_, rfl, F⟩
              exact SqT.of hatC
            · clear F
              rintro r2 u σ' H' hv ⟨_, rfl, F⟩
              obtain ⟨k1, rfl, hk⟩ := two_at hc hv
              repeat k_meth
              rw [dd2 hk]
              repeat k_meth
              exact ⟨_, rfl, F.sub SbC.s (by simp)⟩
            · clear F
              rintro σ' H' ⟨_, rfl, F⟩
              exact ⟨_, _, rfl,  F.sub SbC.s (by simp)⟩
          · clear F
            rintro σ' H' ⟨_, _, rfl, F⟩
            repeat k_meth
            refine ⟨hin, ?_⟩
            repeat k_meth
            exact k _ _ SH.nwC
    · cases car with
      | mark bad =>
        have mb : MkB ys.length f b v := ⟨by rw [yl]; exact bad⟩
        repeat k_meth
        exact fun dx H' s e => k dx H' (F.sm.trans s) e
      | one mk ed hin hx =>
        rename_i i j cs yb rest
        have mo : MkO ys.length f b := ⟨i, j, by rw [yl]; exact mk⟩
        have hmem : (v, yb) ∈ ps := List.mem_of_mem_drop (List.mem_of_mem_take (by rw [ed]; simp))
        obtain ⟨tn, tyx⟩ := (typ _ hmem).1
        have o_x : OldT K H [] v tn := ⟨tyx, fun _ _ z => by cases z⟩
        cases mk with
        | all hi =>
          repeat k_meth
          rw [cut_from, show ys.drop i = (ys.drop i).take (ps.length - i) by rw [List.take_of_length_le (by rw [List.length_drop]; omega)]] at F
          rename Addr => du
          have tz := tupsP_cut i (ps.length - i) tp
          rw [ed] at tz
          generalize (ys.drop i).take (ps.length - i) = zs at F tz
          replace F := F.addP (tz.same F.sm)
          have zl := rowsP_len tz
          rw [List.length_append, List.length_map, List.length_cons] at zl
          refine forL_by (xs := zs) (fun r σ' H' => ∃ (o5 o6 : Option V), σ' = [some (.ref a), some (.ref l), some (.int (i : Nat)), some .non, some (.ref du), o5, o6, none] ∧ r ≤ cs.length ∧ SH H [] H' [(du, .lst zs)] [.tps zs (rowsP (cs.map vP ++ (v, yb) :: rest))]) ⟨_, _, rfl, Nat.zero_le _, F.sub SbC.s (by simp)⟩ ?_ ?_ ?_
          · clear F
            rintro _ σ' H' _ ⟨_, _, rfl, _, F⟩
            exact SqA.e
          · clear F
            rintro r u σ' H' hv ⟨_, _, rfl, hr2, F⟩
            obtain ⟨w, q1, e1, rfl, e2⟩ := rowsP_at (H := H') (ps := cs.map vP ++ (v, yb) :: rest) TpA.e hv
            by_cases hlt : r < cs.length
            · obtain ⟨c, ec, rfl⟩ : ∃ c, cs[r]? = some c ∧ w = vP c := by
                rw [List.getElem?_append_left (by rw [List.length_map]; exact hlt), List.getElem?_map, List.getElem?_eq_getElem hlt] at e1
                cases e1
                exact ⟨_, List.getElem?_eq_getElem hlt, rfl⟩
              have hc := hin c (List.mem_of_getElem? ec)
              replace e2 : H' q1 = some (.tup [V.int (c.1 : Nat), V.int (c.2 : Nat)]) := e2
              replace F := F.addT e2
              repeat k_meth
              refine forT_by (xs := [V.int (c.1 : Nat), V.int (c.2 : Nat)]) (fun r2 σ' H' => ∃ (o6 : Option V), σ' = [some (.ref a), some (.ref l), some (.int (i : Nat)), some .non, some (.ref du), some (.ref q1), o6, none] ∧ SH H [] H' [(du, .lst zs)] [.tup q1 [V.int (c.1 : Nat), V.int (c.2 : Nat)], .tps zs (rowsP (cs.map vP ++ (v, yb) :: rest))]) ⟨_, rfl, F.sub SbC.s (by simp)⟩ ?_ ?_ ?_
              · clear F
                rintro _ σ' H' _ ⟨_, rfl, F⟩
                exact SqT.of hatC
              · clear F
                rintro r2 u σ' H' hv ⟨_, rfl, F⟩
                obtain ⟨k1, rfl, hk⟩ := two_at hc hv
                repeat k_meth
                rw [dd2 hk]
                repeat k_meth
                exact ⟨_, rfl, F.sub SbC.s (by simp)⟩
              · clear F
                rintro σ' H' ⟨_, rfl, F⟩
                exact ⟨_, _, rfl, hlt, F.sub SbC.s (by simp)⟩
            · obtain rfl : r = cs.length := by omega
              obtain rfl : w = (v, yb) := by
                rw [List.getElem?_append_right (by rw [List.length_map]; exact Nat.le_refl _), List.length_map, Nat.sub_self] at e1
                cases e1
                rfl
              replace F := F.addT e2
              repeat k_meth
              refine forT_by (xs := [v, yb]) (fun r2 σ' H' => ∃ (o6 : Option V), σ' = [some (.ref a), some (.ref l), some (.int (i : Nat)), some .non, some (.ref du), some (.ref q1), o6, none] ∧ r2 ≤ 0 ∧ SH H [] H' [(du, .lst zs)] [.tup q1 [v, yb], .tps zs (rowsP (cs.map vP ++ (v, yb) :: rest))]) ⟨_, rfl, Nat.zero_le _, F.sub SbC.s (by simp)⟩ ?_ ?_ ?_
              · clear F
                rintro _ σ' H' _ ⟨_, rfl, _, F⟩
                exact SqT.of hatC
              · clear F
                rintro r2 u σ' H' hv ⟨_, rfl, hj3, F⟩
                obtain rfl : r2 = 0 := by omega
                obtain rfl : u = v := by cases hv; rfl
                repeat k_meth
                rw [hx]
                repeat k_meth
                exact fun dx H' s e => k dx H' (F.sm.trans s) e
              · rintro σ' H' ⟨_, rfl, z, F⟩
                exact absurd z (by simp)
          · rintro σ' H' ⟨_, _, rfl, z, _⟩
            omega
        | to hi hj =>
          repeat k_meth
          rw [cut_mid hi (by omega)] at F
          rename Addr => du
          have tz := tupsP_cut i (j - i) tp
          rw [ed] at tz
          generalize (ys.drop i).take (j - i) = zs at F tz
          replace F := F.addP (tz.same F.sm)
          have zl := rowsP_len tz
          rw [List.length_append, List.length_map, List.length_cons] at zl
          refine forL_by (xs := zs) (fun r σ' H' => ∃ (o5 o6 : Option V), σ' = [some (.ref a), some (.ref l), some (.int (i : Nat)), some (.int (j : Nat)), some (.ref du), o5, o6, none] ∧ r ≤ cs.length ∧ SH H [] H' [(du, .lst zs)] [.tps zs (rowsP (cs.map vP ++ (v, yb) :: rest))]) ⟨_, _, rfl, Nat.zero_le _, F.sub SbC.s (by simp)⟩ ?_ ?_ ?_
          · clear F
            rintro _ σ' H' _ ⟨_, _, rfl, _, F⟩
            exact SqA.e
          · clear F
            rintro r u σ' H' hv ⟨_, _, rfl, hr2, F⟩
            obtain ⟨w, q1, e1, rfl, e2⟩ := rowsP_at (H := H') (ps := cs.map vP ++ (v, yb) :: rest) TpA.e hv
            by_cases hlt : r < cs.length
            · obtain ⟨c, ec, rfl⟩ : ∃ c, cs[r]? = some c ∧ w = vP c := by
                rw [List.getElem?_append_left (by rw [List.length_map]; exact hlt), List.getElem?_map, List.getElem?_eq_getElem hlt] at e1
                cases e1
                exact ⟨_, List.getElem?_eq_getElem hlt, rfl⟩
              have hc := hin c (List.mem_of_getElem? ec)
              replace e2 : H' q1 = some (.tup [V.int (c.1 : Nat), V.int (c.2 : Nat)]) := e2
              replace F := F.addT e2
              repeat k_meth
              refine forT_by (xs := [V.int (c.1 : Nat), V.int (c.2 : Nat)]) (fun r2 σ' H' => ∃ (o6 : Option V), σ' = [some (.ref a), some (.ref l), some (.int (i : Nat)), some (.int (j : Nat)), some (.ref du), some (.ref q1), o6, none] ∧ SH H [] H' [(du, .lst zs)] [.tup q1 [V.int (c.1 : Nat), V.int (c.2 : Nat)], .tps zs (rowsP (cs.map vP ++ (v, yb) :: rest))]) ⟨_, rfl, F.sub SbC.s (by simp)⟩ ?_ ?_ ?_
              · clear F
                rintro _ σ' H' _ ⟨_, rfl, F⟩
                exact SqT.of hatC
              · clear F
                rintro r2 u σ' H' hv ⟨_, rfl, F⟩
                obtain ⟨k1, rfl, hk⟩ := two_at hc hv
                repeat k_meth
                rw [dd2 hk]
                repeat k_meth
                exact ⟨_, rfl, F.sub SbC.s (by simp)⟩
              · clear F
                rintro σ' H' ⟨_, rfl, F⟩
                exact ⟨_, _, rfl, hlt, F.sub SbC.s (by simp)⟩
            · obtain rfl : r = cs.length := by omega
              obtain rfl : w = (v, yb) := by
                rw [List.getElem?_append_right (by rw [List.length_map]; exact Nat.le_refl _), List.length_map, Nat.sub_self] at e1
                cases e1
                rfl
              replace F := F.addT e2
              repeat k_meth
              refine forT_by (xs := [v, yb]) (fun r2 σ' H' => ∃ (o6 : Option V), σ' = [some (.ref a), some (.ref l), some (.int (i : Nat)), some (.int (j : Nat)), some (.ref du), some (.ref q1), o6, none] ∧ r2 ≤ 0 ∧ SH H [] H' [(du, .lst zs)] [.tup q1 [v, yb], .tps zs (rowsP (cs.map vP ++ (v, yb) :: rest))]) ⟨_, rfl, Nat.zero_le _, F.sub SbC.s (by simp)⟩ ?_ ?_ ?_
              · clear F
                rintro _ σ' H' _ ⟨_, rfl, _, F⟩
                exact SqT.of hatC
              · clear F
                rintro r2 u σ' H' hv ⟨_, rfl, hj3, F⟩
                obtain rfl : r2 = 0 := by omega
                obtain rfl : u = v := by cases hv; rfl
                repeat k_meth
                rw [hx]
                repeat k_meth
                exact fun dx H' s e => k dx H' (F.sm.trans s) e
              · rintro σ' H' ⟨_, rfl, z, F⟩
                exact absurd z (by simp)
          · rintro σ' H' ⟨_, _, rfl, z, _⟩
            omega
      | two mk ed hin hkb hx =>
        rename_i i j kb cs rest
        have mo : MkO ys.length f b := ⟨i, j, by rw [yl]; exact mk⟩
        have hmem : (V.int (kb : Nat), v) ∈ ps := List.mem_of_mem_drop (List.mem_of_mem_take (by rw [ed]; simp))
        obtain ⟨tn, tyx⟩ := (typ _ hmem).2
        have o_x : OldT K H [] v tn := ⟨tyx, fun _ _ z => by cases z⟩
        cases mk with
        | all hi =>
          repeat k_meth
          rw [cut_from, show ys.drop i = (ys.drop i).take (ps.length - i) by rw [List.take_of_length_le (by rw [List.length_drop]; omega)]] at F
          rename Addr => du
          have tz := tupsP_cut i (ps.length - i) tp
          rw [ed] at tz
          generalize (ys.drop i).take (ps.length - i) = zs at F tz
          replace F := F.addP (tz.same F.sm)
          have zl := rowsP_len tz
          rw [List.length_append, List.length_map, List.length_cons] at zl
          refine forL_by (xs := zs) (fun r σ' H' => ∃ (o5 o6 : Option V), σ' = [some (.ref a), some (.ref l), some (.int (i : Nat)), some .non, some (.ref du), o5, o6, none] ∧ r ≤ cs.length ∧ SH H [] H' [(du, .lst zs)] [.tps zs (rowsP (cs.map vP ++ (V.int (kb : Nat), v) :: rest))]) ⟨_, _, rfl, Nat.zero_le _, F.sub SbC.s (by simp)⟩ ?_ ?_ ?_
          · clear F
            rintro _ σ' H' _ ⟨_, _, rfl, _, F⟩
            exact SqA.e
          · clear F
            rintro r u σ' H' hv ⟨_, _, rfl, hr2, F⟩
            obtain ⟨w, q1, e1, rfl, e2⟩ := rowsP_at (H := H') (ps := cs.map vP ++ (V.int (kb : Nat), v) :: rest) TpA.e hv
            by_cases hlt : r < cs.length
            · obtain ⟨c, ec, rfl⟩ : ∃ c, cs[r]? = some c ∧ w = vP c := by
                rw [List.getElem?_append_left (by rw [List.length_map]; exact hlt), List.getElem?_map, List.getElem?_eq_getElem hlt] at e1
                cases e1
                exact ⟨_, List.getElem?_eq_getElem hlt, rfl⟩
              have hc := hin c (List.mem_of_getElem? ec)
              replace e2 : H' q1 = some (.tup [V.int (c.1 : Nat), V.int (c.2 : Nat)]) := e2
              replace F := F.addT e2
              repeat k_meth
              refine forT_by (xs := [V.int (c.1 : Nat), V.int (c.2 : Nat)]) (fun r2 σ' H' => ∃ (o6 : Option V), σ' = [some (.ref a), some (.ref l), some (.int (i : Nat)), some .non, some (.ref du), some (.ref q1), o6, none] ∧ SH H [] H' [(du, .lst zs)] [.tup q1 [V.int (c.1 : Nat), V.int (c.2 : Nat)], .tps zs (rowsP (cs.map vP ++ (V.int (kb : Nat), v) :: rest))]) ⟨_, rfl, F.sub SbC.s (by simp)⟩ ?_ ?_ ?_
              · clear F
                rintro _ σ' H' _ ⟨_, rfl, F⟩
                exact SqT.of hatC
              · clear F
                rintro r2 u σ' H' hv ⟨_, rfl, F⟩
                obtain ⟨k1, rfl, hk⟩ := two_at hc hv
                repeat k_meth
                rw [dd2 hk]
                repeat k_meth
                exact ⟨_, rfl, F.sub SbC.s (by simp)⟩
              · clear F
                rintro σ' H' ⟨_, rfl, F⟩
                exact ⟨_, _, rfl, hlt, F.sub SbC.s (by simp)⟩
            · obtain rfl : r = cs.length := by omega
              obtain rfl : w = (V.int (kb : Nat), v) := by
                rw [List.getElem?_append_right (by rw [List.length_map]; exact Nat.le_refl _), List.length_map, Nat.sub_self] at e1
                cases e1
                rfl
              replace F := F.addT e2
              repeat k_meth
              refine forT_by (xs := [V.int (kb : Nat), v]) (fun r2 σ' H' => ∃ (o6 : Option V), σ' = [some (.ref a), some (.ref l), some (.int (i : Nat)), some .non, some (.ref du), some (.ref q1), o6, none] ∧ r2 ≤ 1 ∧ SH H [] H' [(du, .lst zs)] [.tup q1 [V.int (kb : Nat), v], .tps zs (rowsP (cs.map vP ++ (V.int (kb : Nat), v) :: rest))]) ⟨_, rfl, Nat.zero_le _, F.sub SbC.s (by simp)⟩ ?_ ?_ ?_
              · clear F
                rintro _ σ' H' _ ⟨_, rfl, _, F⟩
                exact SqT.of hatC
              · clear F
                rintro r2 u σ' H' hv ⟨_, rfl, hj3, F⟩
                rcases (show r2 = 0 ∨ r2 = 1 by omega) with rfl | rfl
                · obtain rfl : u = V.int (kb : Nat) := by cases hv; rfl
                  repeat k_meth
                  rw [dd2 hkb]
                  repeat k_meth
                  exact ⟨_, rfl, by omega, F.sub SbC.s (by simp)⟩
                · obtain rfl : u = v := by cases hv; rfl
                  repeat k_meth
                  rw [hx]
                  repeat k_meth
                  exact fun dx H' s e => k dx H' (F.sm.trans s) e
              · rintro σ' H' ⟨_, rfl, z, F⟩
                exact absurd z (by simp)
          · rintro σ' H' ⟨_, _, rfl, z, _⟩
            omega
        | to hi hj =>
          repeat k_meth
          rw [cut_mid hi (by omega)] at F
          rename Addr => du
          have tz := tupsP_cut i (j - i) tp
          rw [ed] at tz
          generalize (ys.drop i).take (j - i) = zs at F tz
          replace F := F.addP (tz.same F.sm)
          have zl := rowsP_len tz
          rw [List.length_append, List.length_map, List.length_cons] at zl
          refine forL_by (xs := zs) (fun r σ' H' => ∃ (o5 o6 : Option V), σ' = [some (.ref a), some (.ref l), some (.int (i : Nat)), some (.int (j : Nat)), some (.ref du), o5, o6, none] ∧ r ≤ cs.length ∧ SH H [] H' [(du, .lst zs)] [.tps zs (rowsP (cs.map vP ++ (V.int (kb : Nat), v) :: rest))]) ⟨_, _, rfl, Nat.zero_le _, F.sub SbC.s (by simp)⟩ ?_ ?_ ?_
          · clear F
            rintro _ σ' H' _ ⟨_, _, rfl, _, F⟩
            exact SqA.e
          · clear F
            rintro r u σ' H' hv ⟨_, _, rfl, hr2, F⟩
            obtain ⟨w, q1, e1, rfl, e2⟩ := rowsP_at (H := H') (ps := cs.map vP ++ (V.int (kb : Nat), v) :: rest) TpA.e hv
            by_cases hlt : r < cs.length
            · obtain ⟨c, ec, rfl⟩ : ∃ c, cs[r]? = some c ∧ w = vP c := by
                rw [List.getElem?_append_left (by rw [List.length_map]; exact hlt), List.getElem?_map, List.getElem?_eq_getElem hlt] at e1
                cases e1
                exact ⟨_, List.getElem?_eq_getElem hlt, rfl⟩
              have hc := hin c (List.mem_of_getElem? ec)
              replace e2 : H' q1 = some (.tup [V.int (c.1 : Nat), V.int (c.2 : Nat)]) := e2
              replace F := F.addT e2
              repeat k_meth
              refine forT_by (xs := [V.int (c.1 : Nat), V.int (c.2 : Nat)]) (fun r2 σ' H' => ∃ (o6 : Option V), σ' = [some (.ref a), some (.ref l), some (.int (i : Nat)), some (.int (j : Nat)), some (.ref du), some (.ref q1), o6, none] ∧ SH H [] H' [(du, .lst zs)] [.tup q1 [V.int (c.1 : Nat), V.int (c.2 : Nat)], .tps zs (rowsP (cs.map vP ++ (V.int (kb : Nat), v) :: rest))]) ⟨_, rfl, F.sub SbC.s (by simp)⟩ ?_ ?_ ?_
              · clear F
                rintro _ σ' H' _ ⟨_, rfl, F⟩
                exact SqT.of hatC
              · clear F
                rintro r2 u σ' H' hv ⟨_, rfl, F⟩
                obtain ⟨k1, rfl, hk⟩ := two_at hc hv
                repeat k_meth
                rw [dd2 hk]
                repeat k_meth
                exact ⟨_, rfl, F.sub SbC.s (by simp)⟩
              · clear F
                rintro σ' H' ⟨_, rfl, F⟩
                exact ⟨_, _, rfl, hlt, F.sub SbC.s (by simp)⟩
            · obtain rfl : r = cs.length := by omega
              obtain rfl : w = (V.int (kb : Nat), v) := by
                rw [List.getElem?_append_right (by rw [List.length_map]; exact Nat.le_refl _), List.length_map, Nat.sub_self] at e1
                cases e1
                rfl
              replace F := F.addT e2
              repeat k_meth
              refine forT_by (xs := [V.int (kb : Nat), v]) (fun r2 σ' H' => ∃ (o6 : Option V), σ' = [some (.ref a), some (.ref l), some (.int (i : Nat)), some (.int (j : Nat)), some (.ref du), some (.ref q1), o6, none] ∧ r2 ≤ 1 ∧ SH H [] H' [(du, .lst zs)] [.tup q1 [V.int (kb : Nat), v], .tps zs (rowsP (cs.map vP ++ (V.int (kb : Nat), v) :: rest))]) ⟨_, rfl, Nat.zero_le _, F.sub SbC.s (by simp)⟩ ?_ ?_ ?_
              · clear F
                rintro _ σ' H' _ ⟨_, rfl, _, F⟩
                exact SqT.of hatC
              · clear F
                rintro r2 u σ' H' hv ⟨_, rfl, hj3, F⟩
                rcases (show r2 = 0 ∨ r2 = 1 by omega) with rfl | rfl
                · obtain rfl : u = V.int (kb : Nat) := by cases hv; rfl
                  repeat k_meth
                  rw [dd2 hkb]
                  repeat k_meth
                  exact ⟨_, rfl, by omega, F.sub SbC.s (by simp)⟩
                · obtain rfl : u = v := by cases hv; rfl
                  repeat k_meth
                  rw [hx]
                  repeat k_meth
                  exact fun dx H' s e => k dx H' (F.sm.trans s) e
              · rintro σ' H' ⟨_, rfl, z, F⟩
                exact absurd z (by simp)
          · rintro σ' H' ⟨_, _, rfl, z, _⟩
            omega
end
theorem bt_VE : bootBuiltins "ValueError" = some (.type "ValueError") := by decide +kernel
theorem Tyd.kept {K : PySem.W.Frag} {H H' : Hp} {v : V} (h : Tyd K H v) (s : Same H H') : Tyd K H' v := let ⟨n, t⟩ := h; ⟨n, t.kept fun a u _ e => s a u e⟩
theorem ref_idl {H : Hp} {ys : List V} {ps : List (V × V)} (h : TupsAt H ys (rowsP ps)) : ys.all idV = true := by
  rw [List.all_eq_true]
  intro v hv
  obtain ⟨i, hi, rfl⟩ := List.getElem_of_mem hv
  obtain ⟨_, q, _, e, _⟩ := rowsP_at h (List.getElem?_eq_getElem hi)
  rw [e]
  rfl
def Way (w : Int) (f b f' b' : V) : Prop := (w = 0 ∧ f' = .int 0 ∧ b' = .non) ∨ (w = 1 ∧ f' = f ∧ b' = .non) ∨ (w = 2 ∧ f' = f ∧ b' = b)
def sp_ldone : Sp := fun vs H Q _ => ∃ (a l : Addr) (xs ys : List V) (cs : List (Nat × Nat)), vs = [.ref a, .ref l] ∧ H a = some (.lst xs) ∧ H l = some (.lst ys) ∧ TupsAt H ys (rowsN cs) ∧ xs.length ≤ 1000 ∧ (∀ c ∈ cs, c.1 < xs.length ∧ c.2 < xs.length) ∧ ∀ p H', New H H' p (.lst (doN xs cs)) → Q (.ref p) H'
def sp_ltold (K : PySem.W.Frag) : Sp := fun vs H Q _ => ∃ (a l : Addr) (xs ys : List V) (ps : List (V × V)) (f b f' b' : V) (w : Int) (tf tb : String), vs = [.ref a, .ref l, f, b, .int w] ∧ H a = some (.lst xs) ∧ H l = some (.lst ys) ∧ TupsAt H ys (rowsP ps) ∧ xs.length ≤ 1000 ∧ ys.length ≤ 100000 ∧ xs.all idV = true ∧ Way w f b f' b' ∧ TyOf K H f' (.type tf) ∧ TyOf K H b' (.type tb) ∧ (∀ p ∈ ps, Tyd K H p.1 ∧ Tyd K H p.2) ∧
  ((∃ cs, Car xs.length ps f' b' (.inl cs) ∧ ∀ p H', New H H' p (.lst (doN xs cs)) → Q (.ref p) H') ∨ (∃ v, Car xs.length ps f' b' (.inr v) ∧ ∀ q H', Same H H' → H' q = some (.tup [.str "refused", v]) → Q (.ref q) H'))
section
variable {P : Program} {w : World} {K : PySem.W.Frag} {mg : Str → Option Value} {base : Heap} {c : Nat → Addr} {R  : Addr}
theorem D_ldone (T : Txt K mg c R ) : Def P w K mg base CX0 1 "_law_done" ["_law_cells", "_law_copies_here"] sp_ldone := by
  refine def_of T.d_ldone sc_ldone (fun vs H Q E h => ?_) (fun _ _ _ _ _ _ us hl => match us, hl with | [_, _], _ => rfl) (fun f cdv A outer s H vs Q E hr h => ?_)
  · obtain ⟨a, l, xs, ys, cs, rfl, _⟩ := h
    rfl
  · obtain ⟨a, l, xs, ys, cs, rfl, ha, hl, tp, hz, hin, k⟩ := h
    have nd := sc_ldone.nd
    refine ⟨_, (pss_cons (ps_set (i := 2) nd rfl (Or.inl rfl) (pe_callTy call_list_ofA rfl T.n_list boot_list (pa_cons (pv 0) pa_nil)))
      (pss_cons (ps_for PassesOwn.never rfl (pi_list (pv 1)) (pg_tup rfl (pgs_cons (pg_name (i := 3) nd rfl (Or.inl rfl)) (pgs_cons (pg_name (i := 4) nd rfl (Or.inl rfl)) pgs_nil))) (pss_one (ps_asg (pe_ix ix_list (pv 2) (pv 3) (fun _ _ => rfl)) (pg_sub (pv 2) (pv 4) set_listA))))
      (pss_one (ps_ret (pv 2))))), ?_⟩
    clear nd 
    rw [show start ["_law_cells", "_law_copies_here", "_law_found", "_law_one", "_law_other"] [.ref a, .ref l] = [some (.ref a), some (.ref l), none, none, none] from rfl]
    try dsimp only [cx_K, cx_K2]
    have o_ha := Old.mk (M := []) ha nm0
    have o_hl := Old.mk (M := []) hl nm0
    have F : SH H [] H [] [] := SH.nil
    replace F := F.addP tp
    repeat k_meth
    refine forL_by (xs := ys) (fun i σ' H' => ∃ (o2 o3 : Option V), σ' = [some (.ref a), some (.ref l), some (.ref p_), o2, o3] ∧ SH H [] H' [(p_, .lst (doN xs (cs.take i)))] [.tps ys (rowsN cs)]) ⟨_, _, rfl, F⟩ ?_ ?_ ?_
    · clear F
      rintro i σ' H' _ ⟨_, _, rfl, F⟩
      exact SqA.e
    · clear F
      rintro i v σ' H' hv ⟨_, _, rfl, F⟩
      obtain ⟨c, q1, e1, rfl, e2⟩ := rowsN_at (H := H') (cs := cs) TpA.e hv
      have hc := hin c (List.mem_of_getElem? e1)
      have hlen : (doN xs (cs.take i)).length = xs.length := doN_len
      have a1 : AtI (doN xs (cs.take i)) ((c.1 : Nat) : Int) ((doN xs (cs.take i)).getD c.1 .non) := ⟨atI_nat (by rw [List.getD_eq_getElem?_getD, List.getElem?_eq_getElem (by omega)]; rfl)⟩
      replace F := F.addT e2
      repeat k_meth
      refine ⟨_, _, rfl, ?_⟩
      rw [doN_take e1]
      have F2 := F.sub (L' := [(p_, .lst ((doN xs (cs.take i)).set ((c.2 : Nat) : Int).toNat ((doN xs (cs.take i)).getD c.1 .non)))]) (I' := [.tps ys (rowsN cs)]) SbC.s (by simp)
      exact F2
    · clear F
      rintro σ' H' ⟨_, _, rfl, F⟩
      rw [show ys.length = cs.length by rw [rowsP_len tp, List.length_map], List.take_length] at F
      repeat k_meth
      exact k _ _ SH.nwC
theorem D_ltold (T : Txt K mg c R ) : Def P w K mg base CX0 5 "_law_told" ["_law_cells", "_law_copies_here", "_law_first", "_law_behind", "_law_way"] (sp_ltold K) := by
  obtain ⟨_, _, D_carried⟩ := D_carried (P := P) (w := w) (base := base) T
  refine def_of T.d_ltold sc_ltold (fun vs H Q E h => ?_) (fun _ _ _ _ _ _ us hl => match us, hl with | [_, _, _, _, _], _ => rfl) (fun f cdv A outer s H vs Q E hr h => ?_)
  · obtain ⟨a, l, xs, ys, ps, f, b, f', b', w, tf, tb, rfl, _⟩ := h
    rfl
  · obtain ⟨a, l, xs, ys, ps, f, b, f', b', w, tf, tb, rfl, ha, hl, tp, hz, hy, idx, way, ty1, ty2, typ, kk⟩ := h
    have nd := sc_ltold.nd
    refine ⟨_, (pss_cons (ps_set (i := 5) nd rfl (Or.inl rfl) (pe_callTy call_list_ofA rfl T.n_list boot_list (pa_cons (pv 0) pa_nil)))
      (pss_cons (ps_set (i := 6) nd rfl (Or.inl rfl) (pe_callTy call_list_ofA rfl T.n_list boot_list (pa_cons (pv 1) pa_nil)))
      (pss_cons (ps_set (i := 7) nd rfl (Or.inl rfl) pe_non)
      (pss_cons (ps_try (fun pins EX => (pss_one (ps_if (pt_cmpR op_eq (pv 4) pe_int (nomark _)) (pss_one (ps_set (i := 7) nd rfl (Or.inl rfl) (pe_defx2 D_carried (.int 0) .non ⟨_, rfl⟩ rfl hr (pa_cons (pv 5) (pa_cons (pv 6) pa_nil))))) (pss_one (ps_if (pt_cmpR op_eq (pv 4) pe_int (nomark _)) (pss_one (ps_set (i := 7) nd rfl (Or.inl rfl) (pe_defx1 D_carried .non rfl hr (pa_cons (pv 5) (pa_cons (pv 6) (pa_cons (pv 2) pa_nil)))))) (pss_one (ps_set (i := 7) nd rfl (Or.inl rfl) (pe_defx0 D_carried hr (pa_cons (pv 5) (pa_cons (pv 6) (pa_cons (pv 2) (pa_cons (pv 3) pa_nil)))))))))))) (ph_as (i := 8) T.e_NoPlace.gl (fun a => (pss_one (ps_if (PW.pt (pw_and (pt_val (pe_callB call_isXT rfl T.n_isinstance boot_isinstance (pa_cons (pv 8) (pa_cons (pe_gl (v := .ref R) ⟨_, T.g_R, rfl⟩) pa_nil)))) (pw_and1 (pt_val (pe_callB call_isXT rfl T.n_isinstance boot_isinstance (pa_cons (pv 8) (pa_cons (pe_ty (T := "ValueError") rfl T.n_ValueError bt_VE) pa_nil))))))) (pss_one (ps_set (i := 7) nd rfl (Or.inl rfl) (pe_tupA (pa_cons pe_str (pa_cons (pe_exfT T.e_NoPlace.I.g T.a_NoPlace_at (pv 8)) pa_nil))))) pss_nil))) ph_nil nd rfl rfl))
      (pss_cons (ps_set (i := 9) nd rfl (Or.inl rfl) (pv 7))
      (pss_cons (ps_if (pt_val (pe_callB call_isT rfl T.n_isinstance boot_isinstance (pa_cons (pv 7) (pa_cons (pe_ty (T := "list") rfl T.n_list boot_list) pa_nil)))) (pss_cons (ps_set (i := 9) nd rfl (Or.inl rfl) (pe_callTy call_list_ofA rfl T.n_list boot_list (pa_cons (pv 7) pa_nil)))
        (pss_one (ps_expr (pe_appendA (pv 7) pe_int)))) pss_nil)
      (pss_cons (ps_if (PW.pt (pw_or (pt_cmpR (op_neI hr) (pv 5) (pe_callTy call_list_ofA rfl T.n_list boot_list (pa_cons (pv 0) pa_nil)) (nomark _)) (pw_or1 (pt_cmpR (op_neI hr) (pv 6) (pe_callTy call_list_ofA rfl T.n_list boot_list (pa_cons (pv 1) pa_nil)) (nomark _))))) (pss_one (ps_ret pe_str)) pss_nil)
      (pss_one (ps_ret (pv 9)))))))))), ?_⟩
    clear nd 
    rw [show start ["_law_cells", "_law_copies_here", "_law_first", "_law_behind", "_law_way", "_law_some", "_law_handed", "_law_found", "e", "_law_kept"] [.ref a, .ref l, f, b, .int w] = [some (.ref a), some (.ref l), some (f), some (b), some (.int w), none, none, none, none, none] from rfl]
    try dsimp only [cx_K, cx_K2]
    have xm_NoPlace : ExM K (c 0) (c 0) true := ⟨exm_same T.e_NoPlace.I⟩
    have xr_NoPlace : ExM K (c 0) R true := ⟨exm_up T.e_NoPlace.I T.c_R T.t_R T.m_R⟩
    have o_ha := Old.mk (M := []) ha nm0
    have o_hl := Old.mk (M := []) hl nm0
    have F : SH H [] H [] [] := SH.nil
    have ix : IdL xs := ⟨idx⟩
    have iy : IdL ys := ⟨ref_idl tp⟩
    rcases way with ⟨rfl, rfl, rfl⟩ | ⟨rfl, rfl, rfl⟩ | ⟨rfl, rfl, rfl⟩
    · repeat k_meth
      rcases kk with ⟨cs, car, k⟩ | ⟨v, car, k⟩
      · refine ⟨_, _, xs, ys, ps, .int 0, .non, tf, tb, rfl, hatC, hatC, tp.same F.sm, hz, ty1.kept fun a u _ e => F.sm a u e, ty2.kept fun a u _ e => F.sm a u e, fun p hp => ⟨(typ p hp).1.kept F.sm, (typ p hp).2.kept F.sm⟩, .inl ⟨cs, car, ?_⟩⟩
        have hsz : (doN xs cs).length < sizeLine := by rw [doN_len]; exact Nat.lt_of_le_of_lt hz (by decide)
        repeat k_meth
        exact k _ _ SH.nwC
      · refine ⟨_, _, xs, ys, ps, .int 0, .non, tf, tb, rfl, hatC, hatC, tp.same F.sm, hz, ty1.kept fun a u _ e => F.sm a u e, ty2.kept fun a u _ e => F.sm a u e, fun p hp => ⟨(typ p hp).1.kept F.sm, (typ p hp).2.kept F.sm⟩, .inr ⟨v, car, ?_⟩⟩
        repeat k_meth
        refine ⟨a_, _, _, R, _, true, rfl, exA_.e, T.e_NoPlace.I, kit_excR T.e_NoPlace.I T.c_R T.t_R, ?_⟩
        repeat k_meth
        refine ⟨a_, .ty "ValueError", c 0, R, _, true, rfl, exA_.e, T.e_NoPlace.I, kit_excV T.e_NoPlace.I, ?_⟩
        repeat k_meth
        exact k _ _ F.sm hatC
    · repeat k_meth
      rcases kk with ⟨cs, car, k⟩ | ⟨v, car, k⟩
      · refine ⟨_, _, xs, ys, ps, f', .non, tf, tb, rfl, hatC, hatC, tp.same F.sm, hz, ty1.kept fun a u _ e => F.sm a u e, ty2.kept fun a u _ e => F.sm a u e, fun p hp => ⟨(typ p hp).1.kept F.sm, (typ p hp).2.kept F.sm⟩, .inl ⟨cs, car, ?_⟩⟩
        have hsz : (doN xs cs).length < sizeLine := by rw [doN_len]; exact Nat.lt_of_le_of_lt hz (by decide)
        repeat k_meth
        exact k _ _ SH.nwC
      · refine ⟨_, _, xs, ys, ps, f', .non, tf, tb, rfl, hatC, hatC, tp.same F.sm, hz, ty1.kept fun a u _ e => F.sm a u e, ty2.kept fun a u _ e => F.sm a u e, fun p hp => ⟨(typ p hp).1.kept F.sm, (typ p hp).2.kept F.sm⟩, .inr ⟨v, car, ?_⟩⟩
        repeat k_meth
        refine ⟨a_, _, _, R, _, true, rfl, exA_.e, T.e_NoPlace.I, kit_excR T.e_NoPlace.I T.c_R T.t_R, ?_⟩
        repeat k_meth
        refine ⟨a_, .ty "ValueError", c 0, R, _, true, rfl, exA_.e, T.e_NoPlace.I, kit_excV T.e_NoPlace.I, ?_⟩
        repeat k_meth
        exact k _ _ F.sm hatC
    · repeat k_meth
      rcases kk with ⟨cs, car, k⟩ | ⟨v, car, k⟩
      · refine ⟨_, _, xs, ys, ps, f', b', tf, tb, rfl, hatC, hatC, tp.same F.sm, hz, ty1.kept fun a u _ e => F.sm a u e, ty2.kept fun a u _ e => F.sm a u e, fun p hp => ⟨(typ p hp).1.kept F.sm, (typ p hp).2.kept F.sm⟩, .inl ⟨cs, car, ?_⟩⟩
        have hsz : (doN xs cs).length < sizeLine := by rw [doN_len]; exact Nat.lt_of_le_of_lt hz (by decide)
        repeat k_meth
        exact k _ _ SH.nwC
      · refine ⟨_, _, xs, ys, ps, f', b', tf, tb, rfl, hatC, hatC, tp.same F.sm, hz, ty1.kept fun a u _ e => F.sm a u e, ty2.kept fun a u _ e => F.sm a u e, fun p hp => ⟨(typ p hp).1.kept F.sm, (typ p hp).2.kept F.sm⟩, .inr ⟨v, car, ?_⟩⟩
        repeat k_meth
        refine ⟨a_, _, _, R, _, true, rfl, exA_.e, T.e_NoPlace.I, kit_excR T.e_NoPlace.I T.c_R T.t_R, ?_⟩
        repeat k_meth
        refine ⟨a_, .ty "ValueError", c 0, R, _, true, rfl, exA_.e, T.e_NoPlace.I, kit_excV T.e_NoPlace.I, ?_⟩
        repeat k_meth
        exact k _ _ F.sm hatC
end
def sp_lsame (K : PySem.W.Frag) : Sp := fun vs H Q _ => ∃ (q : Addr) (v : V) (t : String), vs = [.ref q, v] ∧ H q = some (.tup [.str "refused", v]) ∧ TyOf K H v (.type t) ∧ idV v = true ∧ ∀ H', Same H H' → Q (.bl true) H'
def sp_lclean : Sp := fun vs H Q _ => ∃ (l : Addr) (ys : List V) (cs : List (Nat × Nat)), vs = [.ref l] ∧ H l = some (.lst ys) ∧ TupsAt H ys (rowsN cs) ∧ ys.length ≤ 100000 ∧ ∀ (b : Bool) H', Same H H' → Q (.bl b) H'
theorem erase_mapN {α β : Type} {f : α → β} : ∀ {l : List α} {i : Nat}, (l.eraseIdx i).map f = (l.map f).eraseIdx i
  | [], _ => rfl
  | _ :: _, 0 => rfl
  | a :: t, i + 1 => congrArg (f a :: ·) (erase_mapN (l := t) (i := i))
def sp_mixN : Sp := fun vs H Q _ => ∃ (bx l : Addr) (x y z : Int) (ns : List Nat), vs = [.ref bx, .ref l] ∧ H bx = some (.lst [.int x, .int y, .int z]) ∧ H l = some (.lst (ns.map fun n => V.int (n : Nat))) ∧ ns.length ≤ 1000 ∧ bx ≠ l ∧ ∀ (x' y' z' : Int) (ms : List Nat) (p : Addr) (H' : Hp), ms.Perm ns → Kp bx H H' → H' bx = some (.lst [.int x', .int y', .int z']) → H' p = some (.lst (ms.map fun n => V.int (n : Nat))) → (∀ b u, H b = some u → b ≠ p) → Q (.ref p) H'
section
variable {P : Program} {w : World} {K : PySem.W.Frag} {mg : Str → Option Value} {base : Heap} {c : Nat → Addr} {R  : Addr}
theorem D_lsame (T : Txt K mg c R ) : Def P w K mg base CX0 1 "_law_same" ["_law_found", "_law_thing"] (sp_lsame K) := by
  refine def_of T.d_lsame sc_lsame (fun vs H Q E h => ?_) (fun _ _ _ _ _ _ us hl => match us, hl with | [_, _], _ => rfl) (fun f cdv A outer s H vs Q E hr h => ?_)
  · obtain ⟨q, v, t, rfl, _⟩ := h
    rfl
  · obtain ⟨q, v, t, rfl, hq, ty, iv, k⟩ := h
    have nd := sc_lsame.nd
    refine ⟨_, (pss_cons (ps_if (PW.pt (pw_or (pt_not (pt_val (pe_callB call_isT rfl T.n_isinstance boot_isinstance (pa_cons (pv 0) (pa_cons (pe_ty (T := "tuple") rfl T.n_tuple boot_tuple) pa_nil))))) (pw_or1 (pt_cmpR op_ne (pe_callB call_lenN rfl T.n_len boot_len (pa_cons (pv 0) pa_nil)) pe_int (nomark _))))) (pss_one (ps_ret pe_bl)) pss_nil)
      (pss_one (ps_ret (pe_and (pe_cmpR op_eq (pe_callB call_isT rfl T.n_isinstance boot_isinstance (pa_cons (pe_ix ix_tup (pv 0) pe_int (fun _ _ => rfl)) (pa_cons (pe_ty (T := "bool") rfl T.n_bool boot_bool) pa_nil))) (pe_callB call_isT rfl T.n_isinstance boot_isinstance (pa_cons (pv 1) (pa_cons (pe_ty (T := "bool") rfl T.n_bool boot_bool) pa_nil))) (nomark _)) (pe_one (pe_cmpR (op_eqT hr) (pv 0) (pe_tupA (pa_cons pe_str (pa_cons (pv 1) pa_nil))) (nomark _))))))), ?_⟩
    clear nd 
    rw [show start ["_law_found", "_law_thing"] [.ref q, v] = [some (.ref q), some (v)] from rfl]
    try dsimp only [cx_K, cx_K2]
    have o_hq := Old.mk (M := []) hq nm0
    have F : SH H [] H [] [] := SH.nil
    have o_v : OldT K H [] v t := ⟨ty, fun _ _ z => by cases z⟩
    have i_v : IdV v := ⟨iv⟩
    repeat k_meth
    rw [decide_eq_true rfl]
    repeat k_meth
    exact k _ F.sm
theorem D_lclean (T : Txt K mg c R ) : Def P w K mg base CX0 1 "_law_clean" ["_law_copies_here"] sp_lclean := by
  refine def_of T.d_lclean sc_lclean (fun vs H Q E h => ?_) (fun _ _ _ _ _ _ us hl => match us, hl with | [_], _ => rfl) (fun f cdv A outer s H vs Q E hr h => ?_)
  · obtain ⟨l, ys, cs, rfl, _⟩ := h
    rfl
  · obtain ⟨l, ys, cs, rfl, hl, tp, hy, k⟩ := h
    have nd := sc_lclean.nd
    refine ⟨_, (pss_cons (ps_set (i := 1) nd rfl (Or.inl rfl) pe_dnewK)
      (pss_cons (ps_for PassesOwn.never rfl (pi_list (pv 0)) (pg_tup rfl (pgs_cons (pg_name (i := 2) nd rfl (Or.inl rfl)) (pgs_cons (pg_name (i := 3) nd rfl (Or.inl rfl)) pgs_nil))) (pss_cons (ps_if (pt_cmp (pc_din (hu_of hr) (pv 2) (pv 1))) (pss_one (ps_ret pe_bl)) pss_nil)
        (pss_one (ps_dput (hu_of hr) (pv 1) (pv 3) pe_bl rfl))))
      (pss_one (ps_ret pe_bl)))), ?_⟩
    clear nd 
    rw [show start ["_law_copies_here", "_law_written", "_law_one", "_law_other"] [.ref l] = [some (.ref l), none, none, none] from rfl]
    try dsimp only [cx_K, cx_K2]
    have o_hl := Old.mk (M := []) hl nm0
    have F : SH H [] H [] [] := SH.nil
    replace F := F.addP tp
    repeat k_meth
    refine forL_by (xs := ys) (fun i σ' H' => ∃ (o2 o3 : Option V) (kvs : List (Key × V)), σ' = [some (.ref l), some (.ref p_), o2, o3] ∧ kvs.length ≤ i ∧ SH H [] H' [(p_, .dK kvs)] [.tps ys (rowsN cs)]) ⟨_, _, _, rfl, Nat.zero_le _, F⟩ ?_ ?_ ?_
    · clear F
      rintro i σ' H' _ ⟨_, _, _, rfl, _, F⟩
      exact SqA.e
    · clear F
      rintro i v σ' H' hv ⟨_, _, kvs, rfl, hk, F⟩
      obtain ⟨c, q1, e1, rfl, e2⟩ := rowsN_at (H := H') (cs := cs) TpA.e hv
      replace F := F.addT e2
      repeat k_meth
      refine w_dini hatC ?_
      repeat k_meth
      cases hb : (valV kvs (Sum.inl ((c.1 : Nat) : Int))).isSome with
      | true =>
        repeat k_meth
        exact k _ _ F.sm
      | false =>
        repeat k_meth
        have hi : i < ys.length := (List.getElem?_eq_some_iff.mp hv).1
        refine w_dputi hatC (Nat.lt_of_le_of_lt (show kvs.length ≤ 100000 by omega) (by decide)) fun H4 off e4 => ?_
        replace F := F.off off e4 LkU.u
        exact ⟨_, _, putK kvs (Sum.inl ((c.2 : Nat) : Int)) (.bl true), rfl, Nat.le_trans (length_putK _ _ _) (Nat.succ_le_succ hk), F.sub SbC.s (by simp)⟩
    · clear F
      rintro σ' H' ⟨_, _, _, rfl, _, F⟩
      repeat k_meth
      exact k _ _ F.sm
theorem D_mixed (T : Txt K mg c R ) : Def P w K mg base CX0 2 "_law_mixed" ["_law_box_here", "_law_some"] sp_mixN := by
  have D_take := D_take (P := P) (w := w) (base := base) T
  refine def_of T.d_mixed sc_mixed (fun vs H Q E h => ?_) (fun _ _ _ _ _ _ us hl => match us, hl with | [_, _], _ => rfl) (fun f cdv A outer s H vs Q E hr h => ?_)
  · obtain ⟨bx, l, x, y, z, ns, rfl, _⟩ := h
    rfl
  · obtain ⟨bx, l, x, y, z, ns, rfl, hbx, hl, hz, nbl, k⟩ := h
    have nd := sc_mixed.nd
    refine ⟨_, (pss_cons (ps_set (i := 2) nd rfl (Or.inl rfl) (pe_callTy call_list_ofA rfl T.n_list boot_list (pa_cons (pv 1) pa_nil)))
      (pss_cons (ps_set (i := 3) nd rfl (Or.inl rfl) (pe_lstA pa_nil))
      (pss_cons (ps_while PassesOwn.never (pt_cmpR (op_neE hr) (pv 2) (pe_lstA pa_nil) (nomark _)) (pss_one (ps_expr (pe_appendA (pv 3) (pe_popA (pv 2) (pe_def D_take hr (pa_cons (pv 0) (pa_cons (pe_callB call_lenN rfl T.n_len boot_len (pa_cons (pv 2) pa_nil)) pa_nil))))))))
      (pss_one (ps_ret (pv 3)))))), ?_⟩
    clear nd D_take
    rw [show start ["_law_box_here", "_law_some", "_law_left", "_law_found"] [.ref bx, .ref l] = [some (.ref bx), some (.ref l), none, none] from rfl]
    try dsimp only [cx_K, cx_K2]
    have F : SH H [bx] H [(bx, .lst [.int x, .int y, .int z])] [] := SH.nil.addM List.mem_cons_self hbx rfl (by simp)
    have o_hl := Old.mk (M := [bx]) hl (nm1 (Ne.symm nbl))
    repeat k_meth
    rename Addr => fd
    refine while_m (fun m σ' H' => ∃ (yl yf : List Nat) (x y z : Int), σ' = [some (.ref bx), some (.ref l), some (.ref p_), some (.ref fd)] ∧ yl.length = m ∧ (yf ++ yl).Perm ns ∧ SH H [bx] H' [(p_, .lst (yl.map fun n => V.int (n : Nat))), (fd, .lst (yf.map fun n => V.int (n : Nat))), (bx, .lst [.int x, .int y, .int z])] []) ⟨ns.length, ns, [], x, y, z, rfl, rfl, List.Perm.refl _, by rw [List.map_nil]; exact F.sub SbC.s (by simp)⟩ ?_
    clear F
    rintro m σ' H' ⟨yl, yf, x, y, z, rfl, rfl, pm, F⟩
    have pl := pm.length_eq
    rw [List.length_append] at pl
    repeat k_meth
    by_cases hn : yl = []
    · rw [hn]
      repeat k_meth
      rw [hn, List.append_nil] at pm
      exact k _ _ _ yf _ _ pm F.kpo hatC hatC (F.fresh (LkL.m (o := .lst _)) (nm1 (SH.neC (F := F))))
    · have hp : 0 < yl.length := List.length_pos_iff.mpr hn
      rw [decide_eq_false (show ¬ (yl.map fun n => V.int (n : Nat)) = [] from fun z => hn (List.map_eq_nil_iff.mp z))]
      repeat k_meth
      refine ⟨fun σ' H' => ∃ m', m' < yl.length ∧ _, fun σ' H' h => h, ?_⟩
      have hml : (yl.map fun n => V.int (n : Nat)).length = yl.length := List.length_map ..
      repeat k_meth
      intro v hv
      rw [List.getElem?_map] at hv
      cases ev : yl[r_.toNat]? with
      | none => rw [ev] at hv; cases hv
      | some n =>
        rw [ev] at hv
        cases hv
        repeat k_meth
        have hlt := (List.getElem?_eq_some_iff.mp ev).1
        refine ⟨yl.length - 1, by omega, yl.eraseIdx r_.toNat, yf ++ [n], x_, y_, z_, rfl, ?_, ?_, ?_⟩
        · rw [List.length_eraseIdx, if_pos hlt]
        · refine List.Perm.trans ?_ pm
          rw [List.append_assoc]
          exact (List.perm_append_comm.trans (perm_erase ev)).append_left yf
        · rw [List.map_append, List.map_cons, List.map_nil, erase_mapN]
          exact F.sub SbC.s (by simp)
end
theorem do1_at {xs : List V} {c : Nat × Nat} (h1 : c.1 < xs.length) (h2 : c.2 < xs.length) (i : Nat) : (do1 xs c)[i]? = if i = c.2 then xs[c.1]? else xs[i]? := by
  unfold do1
  rw [List.getElem?_set]
  by_cases e : c.2 = i
  · rw [if_pos e, if_pos h2, if_pos e.symm, List.getD_eq_getElem?_getD, List.getElem?_eq_getElem h1]
    rfl
  · rw [if_neg e, if_neg (fun z => e z.symm)]
def cpD (st to m : Nat) : List (Nat × Nat) := (List.range m).map fun j => (st + j, to + j)
def cpU (st to sz m : Nat) : List (Nat × Nat) := (List.range m).map fun j => (st + (sz - 1 - j), to + (sz - 1 - j))
def cps (s : Rw) : List (Nat × Nat) := if s.pn < s.st then cpD s.st s.pn s.sz else if s.st < s.pn then cpU s.st s.pn s.sz s.sz else []
def cpsOf (ss : List Rw) : List (Nat × Nat) := ss.flatMap cps
theorem cpsOf_snoc {ss : List Rw} {s : Rw} : cpsOf (ss ++ [s]) = cpsOf ss ++ cps s := by unfold cpsOf; simp
theorem cpD_at {xs : List V} {st to : Nat} (h : to < st) : ∀ m, st + m ≤ xs.length → ∀ i, (doN xs (cpD st to m))[i]? = if to ≤ i ∧ i < to + m then xs[st + (i - to)]? else xs[i]?
  | 0, _, i => by rw [if_neg (by omega)]; rfl
  | m + 1, hm, i => by
    have e : cpD st to (m + 1) = cpD st to m ++ [(st + m, to + m)] := by unfold cpD; rw [List.range_succ, List.map_append]; rfl
    have ih := cpD_at (xs := xs) h m (by omega)
    have hl : (doN xs (cpD st to m)).length = xs.length := doN_len
    rw [e, doN_app]
    show (do1 (doN xs (cpD st to m)) (st + m, to + m))[i]? = _
    rw [do1_at (by rw [hl]; show st + m < xs.length; omega) (by rw [hl]; show to + m < xs.length; omega)]
    show (if i = to + m then (doN xs (cpD st to m))[st + m]? else _) = _
    rw [ih, ih]
    by_cases e1 : i = to + m
    · rw [if_pos e1, if_neg (by omega), if_pos (by omega), show i - to = m by omega]
    · rw [if_neg e1]
      by_cases e2 : to ≤ i ∧ i < to + m
      · rw [if_pos e2, if_pos (by omega)]
      · rw [if_neg e2, if_neg (by omega)]
theorem cpU_at {xs : List V} {st to sz : Nat} (h : st < to) (hz : to + sz ≤ xs.length) : ∀ m, m ≤ sz → ∀ i, (doN xs (cpU st to sz m))[i]? = if to + (sz - m) ≤ i ∧ i < to + sz then xs[st + (i - to)]? else xs[i]?
  | 0, _, i => by rw [if_neg (by omega)]; rfl
  | m + 1, hm, i => by
    have e : cpU st to sz (m + 1) = cpU st to sz m ++ [(st + (sz - 1 - m), to + (sz - 1 - m))] := by unfold cpU; rw [List.range_succ, List.map_append]; rfl
    have ih := cpU_at h hz m (by omega)
    have hl : (doN xs (cpU st to sz m)).length = xs.length := doN_len
    rw [e, doN_app]
    show (do1 (doN xs (cpU st to sz m)) (st + (sz - 1 - m), to + (sz - 1 - m)))[i]? = _
    rw [do1_at (by rw [hl]; show st + (sz - 1 - m) < xs.length; omega) (by rw [hl]; show to + (sz - 1 - m) < xs.length; omega)]
    show (if i = to + (sz - 1 - m) then (doN xs (cpU st to sz m))[st + (sz - 1 - m)]? else _) = _
    rw [ih, ih]
    by_cases e1 : i = to + (sz - 1 - m)
    · rw [if_pos e1, if_neg (by omega), if_pos (by omega), show i - to = sz - 1 - m by omega]
    · rw [if_neg e1]
      by_cases e2 : to + (sz - m) ≤ i ∧ i < to + sz
      · rw [if_pos e2, if_pos (by omega)]
      · rw [if_neg e2, if_neg (by omega)]
theorem cps_at {xs : List V} {s : Rw} (h1 : s.st + s.sz ≤ xs.length) (h2 : s.pn + s.sz ≤ xs.length) (i : Nat) : (doN xs (cps s))[i]? = if s.pn ≤ i ∧ i < s.pn + s.sz then xs[s.st + (i - s.pn)]? else xs[i]? := by
  unfold cps
  by_cases e : s.pn < s.st
  · rw [if_pos e]; exact cpD_at e s.sz h1 i
  · rw [if_neg e]
    by_cases e2 : s.st < s.pn
    · rw [if_pos e2, cpU_at e2 h2 s.sz (Nat.le_refl _) i, Nat.sub_self, Nat.add_zero]
    · rw [if_neg e2]
      show xs[i]? = _
      by_cases e3 : s.pn ≤ i ∧ i < s.pn + s.sz
      · rw [if_pos e3, show s.st + (i - s.pn) = i by omega]
      · rw [if_neg e3]
theorem cps_in {n : Nat} {s : Rw} (h1 : s.st + s.sz ≤ n) (h2 : s.pn + s.sz ≤ n) : ∀ c ∈ cps s, c.1 < n ∧ c.2 < n := by
  intro c hc
  unfold cps at hc
  split at hc
  · obtain ⟨j, hj, rfl⟩ := List.mem_map.mp hc
    have := List.mem_range.mp hj
    exact ⟨by show s.st + j < n; omega, by show s.pn + j < n; omega⟩
  · split at hc
    · obtain ⟨j, hj, rfl⟩ := List.mem_map.mp hc
      have := List.mem_range.mp hj
      exact ⟨by show s.st + _ < n; omega, by show s.pn + _ < n; omega⟩
    · cases hc
def RoomAt (n : Nat) (qs : List Rw) (k to sz : Nat) : Prop := (∀ p, 0 < k → qs[k - 1]? = some p → p.st + p.sz ≤ to) ∧ (∀ p, qs[k + 1]? = some p → to + sz ≤ p.st) ∧ to + sz ≤ n
inductive Slid (n : Nat) (rs : List Rw) : List Nat → List Rw → List Rw → Prop
  | nil : Slid n rs [] [] rs
  | snoc {ks : List Nat} {ss qs : List Rw} {k to : Nat} {q : Rw} : Slid n rs ks ss qs → k ∉ ks → qs[k]? = some q → RoomAt n qs k to q.sz → Slid n rs (ks ++ [k]) (ss ++ [⟨q.nm, q.st, q.sz, to⟩]) (qs.set k ⟨q.nm, to, q.sz, 0⟩)
structure SlI (n : Nat) (rs : List Rw) (ks : List Nat) (ss qs : List Rw) : Prop where
  len : qs.length = rs.length
  asc : ∀ (i j : Nat) (p q : Rw), i < j → qs[i]? = some p → qs[j]? = some q → p.st + p.sz ≤ q.st
  inn : ∀ (i : Nat) (q : Rw), qs[i]? = some q → q.st + q.sz ≤ n
  old : ∀ (k : Nat), k ∉ ks → qs[k]? = rs[k]?
  inc : ∀ c ∈ cpsOf ss, c.1 < n ∧ c.2 < n
  con : ∀ xs : List V, xs.length = n → ∀ (k : Nat) (r q : Rw), rs[k]? = some r → qs[k]? = some q → q.sz = r.sz ∧ ∀ j, j < r.sz → (doN xs (cpsOf ss))[q.st + j]? = xs[r.st + j]?
  stp : ∀ s ∈ ss, ∃ k ∈ ks, ∃ (r q : Rw), rs[k]? = some r ∧ qs[k]? = some q ∧ r.st = s.st ∧ r.sz = s.sz ∧ q.st = s.pn
theorem SlI.apart {n : Nat} {rs : List Rw} {ks : List Nat} {ss qs : List Rw} {k to : Nat} {q : Rw} (h : SlI n rs ks ss qs) (hk : qs[k]? = some q) (rm : RoomAt n qs k to q.sz) : ∀ (i : Nat) (p : Rw), i ≠ k → qs[i]? = some p → (i < k → p.st + p.sz ≤ to) ∧ (k < i → to + q.sz ≤ p.st) := by
  intro i p hik hp
  have hlk := (List.getElem?_eq_some_iff.mp hk).1
  have hli := (List.getElem?_eq_some_iff.mp hp).1
  constructor
  · intro hlt
    have e := List.getElem?_eq_getElem (show k - 1 < qs.length by omega)
    have h1 := rm.1 _ (by omega) e
    by_cases ei : i = k - 1
    · rw [ei, e] at hp; cases hp; exact h1
    · have := h.asc i (k - 1) _ _ (by omega) hp e
      omega
  · intro hlt
    have e := List.getElem?_eq_getElem (show k + 1 < qs.length by omega)
    have h1 := rm.2.1 _ e
    by_cases ei : i = k + 1
    · rw [ei, e] at hp; cases hp; exact h1
    · have := h.asc (k + 1) i _ _ (by omega) e hp
      omega
theorem slid_inv {n : Nat} {rs : List Rw} (ha : Asc rs) (hg : ∀ r ∈ rs, r.st + r.sz ≤ n) {ks : List Nat} {ss qs : List Rw} (h : Slid n rs ks ss qs) : SlI n rs ks ss qs := by
  induction h with
  | nil =>
    refine ⟨rfl, fun i j p q hij hp hq => ?_, fun i q hq => hg q (List.mem_of_getElem? hq), fun _ _ => rfl, (fun _ hc => by cases hc), fun xs _ k r q hr hq => ?_, fun s hs => by cases hs⟩
    · obtain ⟨hi, rfl⟩ := List.getElem?_eq_some_iff.mp hp
      obtain ⟨hj, rfl⟩ := List.getElem?_eq_some_iff.mp hq
      exact List.pairwise_iff_getElem.mp ha i j hi hj hij
    · rw [hr] at hq; cases hq; exact ⟨rfl, fun _ _ => rfl⟩
  | @snoc ks ss qs k to q h hk hq rm ih =>
    have hlk := (List.getElem?_eq_some_iff.mp hq).1
    have ap := ih.apart hq rm
    have hqn := ih.inn k q hq
    have at' : ∀ (i : Nat) (p : Rw), (qs.set k ⟨q.nm, to, q.sz, 0⟩)[i]? = some p → (i = k ∧ p = ⟨q.nm, to, q.sz, 0⟩) ∨ (i ≠ k ∧ qs[i]? = some p) := fun i p e => by
      rw [List.getElem?_set] at e
      by_cases z : k = i
      · rw [if_pos z, if_pos hlk] at e; cases e; exact .inl ⟨z.symm, rfl⟩
      · rw [if_neg z] at e; exact .inr ⟨fun w => z w.symm, e⟩
    refine ⟨by rw [List.length_set]; exact ih.len, fun i j p q' hij hp hq' => ?_, fun i q' hq' => ?_, fun i hi => ?_, fun c hc => ?_, fun xs hx i r q' hr hq' => ?_, fun s hs => ?_⟩
    · rcases at' i p hp with ⟨e1, rfl⟩ | ⟨e1, hp⟩
      · rcases at' j q' hq' with ⟨e2, rfl⟩ | ⟨e2, hq'⟩
        · omega
        · exact (ap j q' e2 hq').2 (by omega)
      · rcases at' j q' hq' with ⟨e2, rfl⟩ | ⟨e2, hq'⟩
        · exact (ap i p e1 hp).1 (by omega)
        · exact ih.asc i j p q' hij hp hq'
    · rcases at' i q' hq' with ⟨_, rfl⟩ | ⟨_, hq'⟩
      · exact rm.2.2
      · exact ih.inn i q' hq'
    · have : i ≠ k := fun z => hi (by rw [z]; simp)
      rw [List.getElem?_set, if_neg (fun z => this z.symm)]
      exact ih.old i fun z => hi (List.mem_append_left _ z)
    · rw [cpsOf_snoc] at hc
      rcases List.mem_append.mp hc with hc | hc
      · exact ih.inc c hc
      · exact cps_in (s := ⟨q.nm, q.st, q.sz, to⟩) hqn rm.2.2 c hc
    · have hl : (doN xs (cpsOf ss)).length = n := by rw [doN_len, hx]
      have ca := fun i => cps_at (xs := doN xs (cpsOf ss)) (s := ⟨q.nm, q.st, q.sz, to⟩) (by rw [hl]; exact hqn) (by rw [hl]; exact rm.2.2) i
      rw [cpsOf_snoc, doN_app]
      rcases at' i q' hq' with ⟨rfl, rfl⟩ | ⟨e1, hq'⟩
      · obtain ⟨z1, z2⟩ := ih.con xs hx i r q hr hq
        refine ⟨z1, fun j hj => ?_⟩
        rw [ca]
        show (if to ≤ to + j ∧ to + j < to + q.sz then (doN xs (cpsOf ss))[q.st + (to + j - to)]? else _) = _
        rw [if_pos (by omega), show q.st + (to + j - to) = q.st + j by omega]
        exact z2 j hj
      · obtain ⟨z1, z2⟩ := ih.con xs hx i r q' hr hq'
        refine ⟨z1, fun j hj => ?_⟩
        rw [ca]
        have a := ap i q' e1 hq'
        show (if to ≤ q'.st + j ∧ q'.st + j < to + q.sz then _ else _) = _
        rw [if_neg (by
          rcases Nat.lt_or_gt_of_ne e1 with z | z
          · have := a.1 z; omega
          · have := a.2 z; omega)]
        exact z2 j hj
    · rcases List.mem_append.mp hs with hs | hs
      · obtain ⟨i, hi, r, q', e1, e2, e3, e4, e5⟩ := ih.stp s hs
        have : i ≠ k := fun z => hk (z ▸ hi)
        exact ⟨i, List.mem_append_left _ hi, r, q', e1, by rw [List.getElem?_set, if_neg (fun z => this z.symm)]; exact e2, e3, e4, e5⟩
      · rw [List.mem_singleton.mp hs]
        exact ⟨k, by simp, q, _, by rw [← ih.old k hk]; exact hq, by rw [List.getElem?_set, if_pos rfl, if_pos hlk], rfl, rfl, rfl⟩
theorem slid_cells {n : Nat} {rs : List Rw} (ha : Asc rs) (hg : ∀ r ∈ rs, r.st + r.sz ≤ n) {ks : List Nat} {ss qs : List Rw} (h : Slid n rs ks ss qs) {xs : List V} (hx : xs.length = n) {s : Rw} (hs : s ∈ ss) : s.st + s.sz ≤ n ∧ s.pn + s.sz ≤ n ∧ ((doN xs (cpsOf ss)).drop s.pn).take s.sz = (xs.drop s.st).take s.sz := by
  have I := slid_inv ha hg h
  obtain ⟨k, _, r, q, e1, e2, e3, e4, e5⟩ := I.stp s hs
  obtain ⟨z1, z2⟩ := I.con xs hx k r q e1 e2
  have h1 := hg r (List.mem_of_getElem? e1)
  have h2 := I.inn k q e2
  refine ⟨by omega, by omega, List.ext_getElem? fun j => ?_⟩
  rw [List.getElem?_take, List.getElem?_take]
  by_cases hj : j < s.sz
  · rw [if_pos hj, if_pos hj, List.getElem?_drop, List.getElem?_drop, ← e5, ← e3]
    exact z2 j (by omega)
  · rw [if_neg hj, if_neg hj]
def sp_lroom : Sp := fun vs H Q _ => ∃ (n k : Nat) (l : Addr) (ys : List V) (qs : List Rw) (q : Rw), vs = [.int (n : Nat), .ref l, .int (k : Nat)] ∧ H l = some (.lst ys) ∧ TupsAt H ys (rowsV qs) ∧ ys.length ≤ 1000 ∧ qs[k]? = some q ∧ RoomAt n qs k q.st q.sz ∧ (∀ (i : Nat) (r : Rw), qs[i]? = some r → r.st ≤ n) ∧ ∀ (lo hi : Nat) (t : Addr) (H' : Hp), lo ≤ q.st → q.st ≤ hi → hi ≤ n → (∀ to, lo ≤ to → to ≤ hi → RoomAt n qs k to q.sz) → Same H H' → H' t = some (.tup [.int (lo : Nat), .int (hi : Nat)]) → Q (.ref t) H'
def sp_lcopies : Sp := fun vs H Q _ => ∃ (l : Addr) (ys : List V) (ss : List Rw) (n : Nat), vs = [.ref l] ∧ H l = some (.lst ys) ∧ TupsAt H ys (rowsV ss) ∧ ss.length ≤ 40 ∧ n ≤ 240 ∧ (∀ s ∈ ss, s.st + s.sz ≤ n ∧ s.pn + s.sz ≤ n) ∧ ∀ (p : Addr) (zs : List V) (H' : Hp), New H H' p (.lst zs) → TupsAt H' zs (rowsN (cpsOf ss)) → Q (.ref p) H'
section
variable {P : Program} {w : World} {K : PySem.W.Frag} {mg : Str → Option Value} {base : Heap} {c : Nat → Addr} {R  : Addr}
theorem D_lroom (T : Txt K mg c R ) : Def P w K mg base CX0 1 "_law_room" ["_law_many_here", "_law_rows_here", "_law_k"] sp_lroom := by
  refine def_of T.d_lroom sc_lroom (fun vs H Q E h => ?_) (fun _ _ _ _ _ _ us hl => match us, hl with | [_, _, _], _ => rfl) (fun f cdv A outer s H vs Q E hr h => ?_)
  · obtain ⟨n, k, l, ys, qs, q, rfl, _⟩ := h
    rfl
  · obtain ⟨n, k, l, ys, qs, q, rfl, hl, tp, hy, hk, rm, rn, kk⟩ := h
    have nd := sc_lroom.nd
    refine ⟨_, (pss_cons (ps_set (i := 3) nd rfl (Or.inl rfl) pe_int)
      (pss_cons (ps_set (i := 4) nd rfl (Or.inl rfl) (pv 0))
      (pss_cons (ps_if (pt_cmpR op_gt (pv 2) pe_int (nomark _)) (pss_one (ps_set (i := 3) nd rfl (Or.inl rfl) (pe_op op_add (pe_ix ix_tup (pe_ix ix_list (pv 1) (pe_op op_sub (pv 2) pe_int) (fun _ _ => rfl)) pe_int (fun _ _ => rfl)) (pe_ix ix_tup (pe_ix ix_list (pv 1) (pe_op op_sub (pv 2) pe_int) (fun _ _ => rfl)) pe_int (fun _ _ => rfl))))) pss_nil)
      (pss_cons (ps_if (pt_cmpR op_lt (pe_op op_add (pv 2) pe_int) (pe_callB call_lenN rfl T.n_len boot_len (pa_cons (pv 1) pa_nil)) (nomark _)) (pss_one (ps_set (i := 4) nd rfl (Or.inl rfl) (pe_ix ix_tup (pe_ix ix_list (pv 1) (pe_op op_add (pv 2) pe_int) (fun _ _ => rfl)) pe_int (fun _ _ => rfl)))) pss_nil)
      (pss_one (ps_ret (pe_tupA (pa_cons (pv 3) (pa_cons (pe_op op_sub (pv 4) (pe_ix ix_tup (pe_ix ix_list (pv 1) (pv 2) (fun _ _ => rfl)) pe_int (fun _ _ => rfl))) pa_nil))))))))), ?_⟩
    clear nd 
    rw [show start ["_law_many_here", "_law_rows_here", "_law_k", "_law_low", "_law_high"] [.int (n : Nat), .ref l, .int (k : Nat)] = [some (.int (n : Nat)), some (.ref l), some (.int (k : Nat)), none, none] from rfl]
    try dsimp only [cx_K, cx_K2]
    have o_hl := Old.mk (M := []) hl nm0
    have F : SH H [] H [] [] := SH.nil
    have hlen : ys.length = qs.length := by rw [tp.1, rowsV_len]
    have hkl := (List.getElem?_eq_some_iff.mp hk).1
    have at1 : ∀ (i : Nat) (r : Rw), qs[i]? = some r → ∃ q1, ys[i]? = some (.ref q1) ∧ H q1 = some (.tup (rowV r)) := fun i r e => tp.2 i (rowV r) (by unfold rowsV; rw [List.getElem?_map, e]; rfl)
    obtain ⟨q0, y0, t0⟩ := at1 k q hk
    have o_t0 := Old.mk (M := []) t0 nm0
    have ai0 : AtI ys ((k : Nat) : Int) (.ref q0) := ⟨atI_nat y0⟩
    have ek : ∀ j : Nat, (qs[j]? = none ∧ qs.length ≤ j) ∨ ∃ r q1, qs[j]? = some r ∧ ys[j]? = some (.ref q1) ∧ H q1 = some (.tup (rowV r)) := fun j => by
      cases e : qs[j]? with
      | none => exact .inl ⟨rfl, List.getElem?_eq_none_iff.mp e⟩
      | some r => obtain ⟨q1, a, b⟩ := at1 j r e; exact .inr ⟨r, q1, rfl, a, b⟩
    have fin : ∀ (lo hi : Nat) (e : Nat), lo ≤ q.st → e = hi + q.sz → q.st ≤ hi → e ≤ n → (∀ p, 0 < k → qs[k - 1]? = some p → p.st + p.sz ≤ lo) → (∀ p, qs[k + 1]? = some p → e ≤ p.st) → ∀ (t : Addr) (H' : Hp), Same H H' → H' t = some (.tup [.int (lo : Nat), .int (hi : Nat)]) → Q (.ref t) H' := fun lo hi e h1 h2 h3 h4 h5 h6 t H' s et => kk lo hi t H' h1 h3 (by omega) (fun to z1 z2 => ⟨fun p a b => Nat.le_trans (h5 p a b) z1, fun p a => Nat.le_trans (by omega) (h6 p a), by omega⟩) s et
    have rm1 := rm.1
    have rm2 := rm.2.1
    have rm3 := rm.2.2
    by_cases hk0 : 0 < k
    · rcases ek (k - 1) with ⟨_, z⟩ | ⟨r1, q1, e1, y1, t1⟩
      · omega
      have o_t1 := Old.mk (M := []) t1 nm0
      have ai1 : AtI ys ((k : Nat) - 1 : Int) (.ref q1) := ⟨by rw [show ((k : Nat) : Int) - 1 = ((k - 1 : Nat) : Int) by omega]; exact atI_nat y1⟩
      have b1 := rm1 r1 hk0 e1
      have h5 : ∀ p, 0 < k → qs[k - 1]? = some p → p.st + p.sz ≤ r1.st + r1.sz := fun p _ e => by rw [e1] at e; cases e; exact Nat.le_refl _
      rcases ek (k + 1) with ⟨e2, z⟩ | ⟨r2, q2, e2, y2, t2⟩
      · repeat k_meth
        exact fin (r1.st + r1.sz) (n - q.sz) n b1 (by omega) (by omega) (Nat.le_refl _) h5 (fun p e => by rw [e2] at e; cases e) p_ H_ F.sm (by rw [show ((n - q.sz : Nat) : Int) = ((n : Nat) : Int) - ((q.sz : Nat) : Int) by omega, Int.natCast_add]; exact hatC)
      · have o_t2 := Old.mk (M := []) t2 nm0
        have ai2 : AtI ys ((k : Nat) + 1 : Int) (.ref q2) := ⟨by rw [show ((k : Nat) : Int) + 1 = ((k + 1 : Nat) : Int) by omega]; exact atI_nat y2⟩
        have b2 := rm2 r2 e2
        have hk2 := (List.getElem?_eq_some_iff.mp e2).1
        repeat k_meth
        exact fin (r1.st + r1.sz) (r2.st - q.sz) r2.st b1 (by omega) (by omega) (rn (k + 1) r2 e2) h5 (fun p e => by rw [e2] at e; cases e; exact Nat.le_refl _) p_ H_ F.sm (by rw [show ((r2.st - q.sz : Nat) : Int) = ((r2.st : Nat) : Int) - ((q.sz : Nat) : Int) by omega, Int.natCast_add]; exact hatC)
    · have h5 : ∀ p, 0 < k → qs[k - 1]? = some p → p.st + p.sz ≤ 0 := fun p z _ => absurd z hk0
      rcases ek (k + 1) with ⟨e2, z⟩ | ⟨r2, q2, e2, y2, t2⟩
      · repeat k_meth
        exact fin 0 (n - q.sz) n (Nat.zero_le _) (by omega) (by omega) (Nat.le_refl _) h5 (fun p e => by rw [e2] at e; cases e) p_ H_ F.sm (by rw [show ((n - q.sz : Nat) : Int) = ((n : Nat) : Int) - ((q.sz : Nat) : Int) by omega]; exact hatC)
      · have o_t2 := Old.mk (M := []) t2 nm0
        have ai2 : AtI ys ((k : Nat) + 1 : Int) (.ref q2) := ⟨by rw [show ((k : Nat) : Int) + 1 = ((k + 1 : Nat) : Int) by omega]; exact atI_nat y2⟩
        have b2 := rm2 r2 e2
        have hk2 := (List.getElem?_eq_some_iff.mp e2).1
        repeat k_meth
        exact fin 0 (r2.st - q.sz) r2.st (Nat.zero_le _) (by omega) (by omega) (rn (k + 1) r2 e2) h5 (fun p e => by rw [e2] at e; cases e; exact Nat.le_refl _) p_ H_ F.sm (by rw [show ((r2.st - q.sz : Nat) : Int) = ((r2.st : Nat) : Int) - ((q.sz : Nat) : Int) by omega]; exact hatC)
end
instance go_compF1 {σ : L2.St} {H : Hp} {Q : VK} {tr : TA} {nt : Nat} {fr : List Nat} {g : TG} {c : TT} {te : TE} : Go (tComp (iRng1 tr) nt fr g c te σ H Q) (tr σ H fun vs H1 => ∃ j : Int, vs = [.int j] ∧ -(2 ^ 62) ≤ j ∧ j < 2 ^ 62 ∧ CompAll (Itr 0 j.toNat) nt fr g c te σ H1 Q) := ⟨id⟩
theorem tups_app {H : Hp} {xs ys : List V} {a b : List (List V)} (h : TupsAt H xs a) (g : TupsAt H ys b) : TupsAt H (xs ++ ys) (a ++ b) := by
  refine ⟨by rw [List.length_append, List.length_append, h.1, g.1], fun j r e => ?_⟩
  by_cases hj : j < a.length
  · rw [List.getElem?_append_left hj] at e
    obtain ⟨q, x, y⟩ := h.2 j r e
    exact ⟨q, by rw [List.getElem?_append_left (by rw [h.1]; exact hj)]; exact x, y⟩
  · rw [List.getElem?_append_right (by omega)] at e
    obtain ⟨q, x, y⟩ := g.2 _ r e
    exact ⟨q, by rw [List.getElem?_append_right (by rw [h.1]; omega), h.1]; exact x, y⟩
theorem rowsN_app (a b : List (Nat × Nat)) : rowsN (a ++ b) = rowsN a ++ rowsN b := by unfold rowsN rowsP; simp
theorem rows_D {st to m : Nat} : (List.range m).map (fun j => [V.int ((st + j : Nat) : Int), V.int ((to + j : Nat) : Int)]) = rowsN (cpD st to m) := by unfold rowsN rowsP cpD vP; simp
theorem rows_U {st to sz m : Nat} : (List.range m).map (fun j => [V.int ((st + (sz - 1 - j) : Nat) : Int), V.int ((to + (sz - 1 - j) : Nat) : Int)]) = rowsN (cpU st to sz m) := by unfold rowsN rowsP cpU vP; simp
theorem rangeV_at {m i : Nat} {v : V} (h : (rangeV 0 m)[i]? = some v) : i < m ∧ v = .int (i : Nat) := by
  unfold rangeV at h
  rw [List.getElem?_map] at h
  cases e : (List.range m)[i]? with
  | none => rw [e] at h; cases h
  | some x =>
    rw [e] at h
    obtain ⟨hi, rfl⟩ := List.getElem?_eq_some_iff.mp e
    rw [List.length_range] at hi
    refine ⟨hi, ?_⟩
    have := Option.some.inj h
    rw [← this]
    simp
theorem stepsV_at {m i : Nat} {v : V} (h : (stepsV ((m : Nat) - 1 : Int) (-1) m)[i]? = some v) : i < m ∧ v = .int ((m - 1 - i : Nat) : Int) := by
  unfold stepsV at h
  rw [List.getElem?_map] at h
  cases e : (List.range m)[i]? with
  | none => rw [e] at h; cases h
  | some x =>
    rw [e] at h
    obtain ⟨hi, rfl⟩ := List.getElem?_eq_some_iff.mp e
    rw [List.length_range] at hi
    refine ⟨hi, ?_⟩
    have := Option.some.inj h
    rw [← this, List.getElem_range]
    show V.int (((m : Nat) : Int) - 1 + ((i : Nat) : Int) * (-1)) = _
    rw [show ((m : Nat) : Int) - 1 + ((i : Nat) : Int) * (-1) = ((m - 1 - i : Nat) : Int) by omega]
theorem cps_len {s : Rw} : (cps s).length ≤ s.sz := by
  unfold cps
  split
  · unfold cpD; simp
  · split
    · unfold cpU; simp
    · exact Nat.zero_le _
theorem cpsOf_len : ∀ {ss : List Rw}, (∀ s ∈ ss, s.sz ≤ 240) → (cpsOf ss).length ≤ ss.length * 240
  | [], _ => Nat.zero_le _
  | s :: t, h => by
    have e : cpsOf (s :: t) = cps s ++ cpsOf t := rfl
    have h1 := cps_len (s := s)
    have h2 := h s List.mem_cons_self
    have h3 := cpsOf_len (ss := t) fun x hx => h x (List.mem_cons_of_mem _ hx)
    rw [e, List.length_append, List.length_cons]
    omega
section
variable {P : Program} {w : World} {K : PySem.W.Frag} {mg : Str → Option Value} {base : Heap} {c : Nat → Addr} {R  : Addr}
theorem D_lcopies (T : Txt K mg c R ) : Def P w K mg base CX0 1 "_law_copies" ["_law_steps_here"] sp_lcopies := by
  refine def_of T.d_lcopies sc_lcopies (fun vs H Q E h => ?_) (fun _ _ _ _ _ _ us hl => match us, hl with | [_], _ => rfl) (fun f cdv A outer s H vs Q E hr h => ?_)
  · obtain ⟨l, ys, ss, n, rfl, _⟩ := h
    rfl
  · obtain ⟨l, ys, ss, n, rfl, hl, tp, sl, hn, hin, k⟩ := h
    have nd := sc_lcopies.nd
    refine ⟨_, (pss_cons (ps_set (i := 1) nd rfl (Or.inl rfl) (pe_lstA pa_nil))
      (pss_cons (ps_for PassesOwn.never rfl (pi_list (pv 0)) (pg_tup rfl (pgs_cons (pg_name (i := 2) nd rfl (Or.inl rfl)) (pgs_cons (pg_name (i := 3) nd rfl (Or.inr rfl)) (pgs_cons (pg_name (i := 4) nd rfl (Or.inl rfl)) (pgs_cons (pg_name (i := 5) nd rfl (Or.inr rfl)) pgs_nil))))) (pss_one (ps_if (pt_cmpR op_lt (pv 5) (pv 3) (nomark _)) (pss_one (ps_expr (pe_extA (pv 1) (pe_comp (N := ["_law_k", "_law_start", "_law_to"]) (nt := 1) (fr := [3, 5]) (pi_range1 rfl T.n_range (pa_cons (pv 4) pa_nil)) (fun _ _ _ _ => (pg_name (i := 0) (show (["_law_k", "_law_start", "_law_to"] : List Str).Nodup from by decide +kernel) rfl (Or.inl rfl))) (fun _ _ _ _ => pif_nil) (fun _ _ _ _ => (pe_tupA (pa_cons (pe_op op_add (pv 1) (pv 0)) (pa_cons (pe_op op_add (pv 2) (pv 0)) pa_nil)))))))) (pss_one (ps_if (pt_cmpR op_gt (pv 5) (pv 3) (nomark _)) (pss_one (ps_expr (pe_extA (pv 1) (pe_comp (N := ["_law_k", "_law_start", "_law_to"]) (nt := 1) (fr := [3, 5]) (pi_revR rfl T.n_reversed rfl T.n_range (pa_cons (pv 4) pa_nil)) (fun _ _ _ _ => (pg_name (i := 0) (show (["_law_k", "_law_start", "_law_to"] : List Str).Nodup from by decide +kernel) rfl (Or.inl rfl))) (fun _ _ _ _ => pif_nil) (fun _ _ _ _ => (pe_tupA (pa_cons (pe_op op_add (pv 1) (pv 0)) (pa_cons (pe_op op_add (pv 2) (pv 0)) pa_nil)))))))) pss_nil)))))
      (pss_one (ps_ret (pv 1))))), ?_⟩
    clear nd 
    rw [show start ["_law_steps_here", "_law_found", "_law_name", "_law_start", "_law_size", "_law_to"] [.ref l] = [some (.ref l), none, none, none, none, none] from rfl]
    try dsimp only [cx_K, cx_K2]
    have o_hl := Old.mk (M := []) hl nm0
    have F : SH H [] H [] [] := SH.nil
    replace F := F.addP tp
    repeat k_meth
    refine forL_by (xs := ys) (fun i σ' H' => ∃ (o2 o3 o4 o5 : Option V) (zs : List V), σ' = [some (.ref l), some (.ref p_), o2, o3, o4, o5] ∧ SH H [] H' [(p_, .lst zs)] [.tps zs (rowsN (cpsOf (ss.take i))), .tps ys (rowsV ss)]) ⟨_, _, _, _, [], rfl, F.addP TupsAt.nil⟩ ?_ ?_ ?_
    · clear F
      rintro i σ' H' _ ⟨_, _, _, _, _, rfl, F⟩
      exact SqA.e
    · clear F
      rintro i v σ' H' hv ⟨_, _, _, _, zs, rfl, F⟩
      obtain ⟨s1, q1, e1, rfl, e2⟩ := rowsV_at (H := H') (rs := ss) TpA.e hv
      have hs := hin s1 (List.mem_of_getElem? e1)
      have et : ss.take (i + 1) = ss.take i ++ [s1] := by rw [List.take_add_one, e1]; rfl
      replace F := F.addT e2
      have tz : TupsAt H' zs (rowsN (cpsOf (ss.take i))) := TpA.e
      by_cases h1 : s1.pn < s1.st
      · have ec : cps s1 = cpD s1.st s1.pn s1.sz := if_pos h1
        repeat k_meth
        refine ⟨_, rfl, by omega, by omega, ?_⟩
        rw [Int.toNat_natCast]
        refine comp_QT items_range (fun j => [V.int ((s1.st + j : Nat) : Int), V.int ((s1.pn + j : Nat) : Int)]) (fvs := [some (.int (s1.st : Nat)), some (.int (s1.pn : Nat))]) (by unfold rangeV; rw [List.length_map, List.length_range]; omega) rfl (fun j v H1 R hv2 sm kk => ?_) fun l1 z1 H1 n1 t1 => ?_
        · obtain ⟨hj, rfl⟩ := rangeV_at hv2
          clear F
          have F : SH H1 [] H1 [] [] := SH.nil
          repeat k_meth
          exact kk _ _ F.sm (by rw [Int.natCast_add, Int.natCast_add]; exact hatC)
        · rw [show (rangeV 0 s1.sz).length = s1.sz by unfold rangeV; rw [List.length_map, List.length_range], rows_D] at t1
          replace F := F.newR n1 t1
          have t2 : TupsAt H1 (zs ++ z1) (rowsN (cpsOf (ss.take (i + 1)))) := by rw [et, cpsOf_snoc, ec, rowsN_app]; exact tups_app (tz.same n1.s) t1
          replace F := F.addP t2
          have z2 := rowsP_len t2
          rw [List.length_map, List.length_append] at z2
          have z3 := cpsOf_len (ss := ss.take (i + 1)) fun x hx => by have := hin x (List.mem_of_mem_take hx); omega
          have z4 : (ss.take (i + 1)).length ≤ 40 := by rw [List.length_take]; omega
          have z5 : zs.length + z1.length ≤ sizeLine := Nat.le_trans (show zs.length + z1.length ≤ 9600 by omega) (by decide)
          repeat k_meth
          exact ⟨_, _, _, _, zs ++ z1, rfl, F.sub SbC.s (by simp)⟩
      · by_cases h2 : s1.st < s1.pn
        · have ec : cps s1 = cpU s1.st s1.pn s1.sz s1.sz := by unfold cps; rw [if_neg h1, if_pos h2]
          repeat k_meth
          refine ⟨_, rfl, by omega, ?_⟩
          rw [Int.toNat_natCast]
          refine comp_QT items_steps (fun j => [V.int ((s1.st + (s1.sz - 1 - j) : Nat) : Int), V.int ((s1.pn + (s1.sz - 1 - j) : Nat) : Int)]) (fvs := [some (.int (s1.st : Nat)), some (.int (s1.pn : Nat))]) (by unfold stepsV; rw [List.length_map, List.length_range]; omega) rfl (fun j v H1 R hv2 sm kk => ?_) fun l1 z1 H1 n1 t1 => ?_
          · obtain ⟨hj, rfl⟩ := stepsV_at hv2
            clear F
            have F : SH H1 [] H1 [] [] := SH.nil
            repeat k_meth
            exact kk _ _ F.sm (by rw [Int.natCast_add, Int.natCast_add]; exact hatC)
          · rw [show (stepsV ((s1.sz : Nat) - 1 : Int) (-1) s1.sz).length = s1.sz by unfold stepsV; rw [List.length_map, List.length_range], rows_U] at t1
            replace F := F.newR n1 t1
            have t2 : TupsAt H1 (zs ++ z1) (rowsN (cpsOf (ss.take (i + 1)))) := by rw [et, cpsOf_snoc, ec, rowsN_app]; exact tups_app (tz.same n1.s) t1
            replace F := F.addP t2
            have z2 := rowsP_len t2
            rw [List.length_map, List.length_append] at z2
            have z3 := cpsOf_len (ss := ss.take (i + 1)) fun x hx => by have := hin x (List.mem_of_mem_take hx); omega
            have z4 : (ss.take (i + 1)).length ≤ 40 := by rw [List.length_take]; omega
            have z5 : zs.length + z1.length ≤ sizeLine := Nat.le_trans (show zs.length + z1.length ≤ 9600 by omega) (by decide)
            repeat k_meth
            exact ⟨_, _, _, _, zs ++ z1, rfl, F.sub SbC.s (by simp)⟩
        · have ec : cps s1 = [] := by unfold cps; rw [if_neg h1, if_neg h2]
          repeat k_meth
          refine ⟨_, _, _, _, zs, rfl, ?_⟩
          rw [et, cpsOf_snoc, ec, List.append_nil]
          exact F.sub SbC.s (by simp)
    · clear F
      rintro σ' H' ⟨_, _, _, _, zs, rfl, F⟩
      rw [show ys.length = ss.length by rw [tp.1, rowsV_len], List.take_length] at F
      repeat k_meth
      exact k _ zs _ SH.nwC TpA.e
end
theorem comp_filt0 {fr : List Nat} {σ fvs : L2.St} {H : Hp} {Q : VK} {c : TT} {m : Nat} {p : Nat → Bool} (hz : m ≤ 1000000) (hf : (fr.map fun i => (σ[i]?).getD none) = fvs)
    (turn : ∀ (j : Nat) (H' : Hp) (R : Bool → Hp → Prop), j < m → Same H H' → (∀ H2, Same H' H2 → R (p j) H2) → c (some (.int (j : Nat)) :: fvs) H' R)
    (k : ∀ l H', New H H' l (.lst (((List.range m).filter p).map fun n => V.int (n : Nat))) → Q (.ref l) H') : CompAll (Itr 0 m) 1 fr (gName 0) c (tVar 0) σ H Q := by
  have er : rangeV 0 m = (List.range m).map fun j : Nat => V.int (j : Nat) := by
    unfold rangeV
    apply List.map_congr_left
    intro i _
    simp
  have el : (rangeV 0 m).length = m := by simp [rangeV]
  exact go_filter (σ := σ) (H := H) (wi := fun _ H R => R (Itr 0 m) H) (J := Itr 0 m) (c := c) (Q := Q) (fr := fr) (fvs := fvs) (p := fun v => match v with | .int z => p z.toNat | _ => false) (by rw [el]; exact hz) hf (items_range (lo := 0) (n := m)) (fun R h => h) (fun H' s => trivial) (fun i v H' R hv s kk => by
    have hm := List.mem_of_getElem? hv
    rw [er] at hm
    obtain ⟨j, hj, rfl⟩ := List.mem_map.mp hm
    exact turn j H' R (List.mem_range.mp hj) s kk) (by
    rw [er, List.filter_map]
    intro l H' n
    exact k l H' n)
section
variable {bx l : Addr} {x y z : Int} {H H0 : Hp} {M : List Addr} {L : List (Addr × HO)} {I : List Im} {Q : VK} {E : XK} {ns : List Nat}
instance go_mixN [h : Hat H bx (.lst [.int x, .int y, .int z])] [h2 : Hat H l (.lst (ns.map fun n => V.int (n : Nat)))] [F : SH H0 M H L I] [ne : LkNe L bx l] : Go (sp_mixN [.ref bx, .ref l] H Q E) (Sd (ns.length ≤ 1000) (∀ (x' y' z' : Int) (ms : List Nat), ms.Perm ns → ∀ H1, Kp bx H H1 → H1 bx = some (.lst [.int x', .int y', .int z']) → ∀ p H2, New H1 H2 p (.lst (ms.map fun n => V.int (n : Nat))) → Q (.ref p) H2)) :=
  ⟨fun s => ⟨bx, l, x, y, z, ns, rfl, h.e, h2.e, s.1, ne.ne F.nd, fun x' y' z' ms p H' pm f e e2 fr => two_steps (R := fun H' => Q (.ref p) H') ⟨_, h.e⟩ f e e2 fr fun H1 f1 e1 n1 => s.2 x' y' z' ms pm H1 f1 e1 p H' n1⟩⟩
end
def sp_lsteps : Sp := fun vs H Q _ => ∃ (bx l : Addr) (x y z : Int) (n : Nat) (ys : List V) (rs : List Rw), vs = [.ref bx, .int (n : Nat), .ref l] ∧ H bx = some (.lst [.int x, .int y, .int z]) ∧ n ≤ 240 ∧ H l = some (.lst ys) ∧ TupsAt H ys (rowsV rs) ∧ Lay n rs ∧ Asc rs ∧ bx ≠ l ∧ ∀ (x' y' z' : Int) (ks : List Nat) (ss qs : List Rw) (t sl rl : Addr) (zs : List V) (H' : Hp), Slid n rs ks ss qs → ss.length ≤ 40 → SH H [bx] H' [(sl, .lst zs), (bx, .lst [.int x', .int y', .int z'])] [.tup t [.ref sl, .ref rl], .tps zs (rowsV ss)] → Q (.ref t) H'
theorem tups_set {H : Hp} {ys : List V} {rs : List Rw} {k : Nat} {r : Rw} {q : Addr} (h : TupsAt H ys (rowsV rs)) (e : H q = some (.tup (rowV r))) : TupsAt H (ys.set k (.ref q)) (rowsV (rs.set k r)) := by
  have hl : ys.length = rs.length := by rw [h.1, rowsV_len]
  refine ⟨by rw [List.length_set, rowsV_len, List.length_set, hl], fun j r' e' => ?_⟩
  unfold rowsV at e'
  rw [List.getElem?_map, List.getElem?_set] at e'
  by_cases z : k = j
  · rw [if_pos z] at e'
    by_cases z2 : k < rs.length
    · rw [if_pos z2] at e'
      cases e'
      exact ⟨q, by rw [List.getElem?_set, if_pos z, if_pos (by omega)], e⟩
    · rw [if_neg z2] at e'; cases e'
  · rw [if_neg z] at e'
    obtain ⟨q', a, b⟩ := h.2 j r' (by unfold rowsV; rw [List.getElem?_map]; exact e')
    exact ⟨q', by rw [List.getElem?_set, if_neg z]; exact a, b⟩
theorem room_at {n : Nat} {rs : List Rw} {ks : List Nat} {ss qs : List Rw} (h : SlI n rs ks ss qs) {k : Nat} {q : Rw} (hk : qs[k]? = some q) : RoomAt n qs k q.st q.sz := ⟨fun p h0 hp => h.asc (k - 1) k p q (by omega) hp hk, fun p hp => h.asc k (k + 1) q p (by omega) hk hp, h.inn k q hk⟩
section
variable {P : Program} {w : World} {K : PySem.W.Frag} {mg : Str → Option Value} {base : Heap} {c : Nat → Addr} {R  : Addr}
theorem D_lsteps (T : Txt K mg c R ) : Def P w K mg base CX0 3 "_law_steps" ["_law_box_here", "_law_many_here", "_law_rows_here"] sp_lsteps := by
  have D_mixed := D_mixed (P := P) (w := w) (base := base) T
  have D_take := D_take (P := P) (w := w) (base := base) T
  have D_lroom := D_lroom (P := P) (w := w) (base := base) T
  refine def_of T.d_lsteps sc_lsteps (fun vs H Q E h => ?_) (fun _ _ _ _ _ _ us hl => match us, hl with | [_, _, _], _ => rfl) (fun f cdv A outer s H vs Q E hr h => ?_)
  · obtain ⟨bx, l, x, y, z, n, ys, rs, rfl, _⟩ := h
    rfl
  · obtain ⟨bx, l, x, y, z, n, ys, rs, rfl, hbx, hn, hl, tp, ly, as, nbl, kk⟩ := h
    have nd := sc_lsteps.nd
    refine ⟨_, (pss_cons (ps_set (i := 2) nd rfl (Or.inr rfl) (pe_callTy call_list_ofA rfl T.n_list boot_list (pa_cons (pv 2) pa_nil)))
      (pss_cons (ps_set (i := 3) nd rfl (Or.inl rfl) (pe_lstA pa_nil))
      (pss_cons (ps_for PassesOwn.never rfl (pi_list (pe_def D_mixed hr (pa_cons (pv 0) (pa_cons (pe_comp (N := ["_law_k", "_law_rows_here"]) (nt := 1) (fr := [2]) (pi_range1 rfl T.n_range (pa_cons (pe_callB call_lenN rfl T.n_len boot_len (pa_cons (pv 2) pa_nil)) pa_nil)) (fun _ _ _ _ => (pg_name (i := 0) (show (["_law_k", "_law_rows_here"] : List Str).Nodup from by decide +kernel) rfl (Or.inl rfl))) (fun _ _ _ _ => pif_one (pt_cmpR op_eq (pe_ix (ix_tupK (K := K) rfl) (pe_ix (ix_listK (K := K) rfl) (pv 1) (pv 0) (fun _ _ => rfl)) pe_int (fun _ _ => rfl)) pe_int (nomark _))) (fun _ _ _ _ => (pv 0))) pa_nil)))) (pg_name (i := 4) nd rfl (Or.inl rfl)) (pss_one (ps_if (pt_cmpR op_gt (pe_def D_take hr (pa_cons (pv 0) (pa_cons pe_int pa_nil))) pe_int (nomark _)) (pss_cons (ps_asg (pe_ix ix_list (pv 2) (pv 4) (fun _ _ => rfl)) (pg_tup rfl (pgs_cons (pg_name (i := 5) nd rfl (Or.inl rfl)) (pgs_cons (pg_name (i := 6) nd rfl (Or.inl rfl)) (pgs_cons (pg_name (i := 7) nd rfl (Or.inl rfl)) (pgs_cons (pg_name (i := 8) nd rfl (Or.inl rfl)) pgs_nil))))))
          (pss_cons (ps_asg (pe_def D_lroom hr (pa_cons (pv 1) (pa_cons (pv 2) (pa_cons (pv 4) pa_nil)))) (pg_tup rfl (pgs_cons (pg_name (i := 9) nd rfl (Or.inl rfl)) (pgs_cons (pg_name (i := 10) nd rfl (Or.inl rfl)) pgs_nil))))
          (pss_cons (ps_set (i := 11) nd rfl (Or.inl rfl) (pe_ix ix_list (pe_lstA (pa_cons (pv 9) (pa_cons (pv 10) (pa_cons (pe_op op_add (pv 9) (pe_def D_take hr (pa_cons (pv 0) (pa_cons (pe_op op_add (pe_op op_sub (pv 10) (pv 9)) pe_int) pa_nil)))) (pa_cons (pv 6) pa_nil))))) (pe_def D_take hr (pa_cons (pv 0) (pa_cons pe_int pa_nil))) (fun _ _ => rfl)))
          (pss_cons (ps_expr (pe_appendA (pv 3) (pe_tupA (pa_cons (pv 5) (pa_cons (pv 6) (pa_cons (pv 7) (pa_cons (pv 11) pa_nil)))))))
          (pss_one (ps_asg (pe_tupA (pa_cons (pv 5) (pa_cons (pv 11) (pa_cons (pv 7) (pa_cons pe_int pa_nil))))) (pg_sub (pv 2) (pv 4) set_listA))))))) pss_nil)))
      (pss_one (ps_ret (pe_tupA (pa_cons (pv 3) (pa_cons (pv 2) pa_nil)))))))), ?_⟩
    clear nd D_mixed D_take D_lroom
    rw [show start ["_law_box_here", "_law_many_here", "_law_rows_here", "_law_steps_here", "_law_k", "_law_name", "_law_start", "_law_size", "_law_pins", "_law_low", "_law_high", "_law_to"] [.ref bx, .int (n : Nat), .ref l] = [some (.ref bx), some (.int (n : Nat)), some (.ref l), none, none, none, none, none, none, none, none, none] from rfl]
    try dsimp only [cx_K, cx_K2]
    have F : SH H [bx] H [(bx, .lst [.int x, .int y, .int z])] [] := SH.nil.addM List.mem_cons_self hbx rfl (by simp)
    have o_hl := Old.mk (M := [bx]) hl (nm1 (Ne.symm nbl))
    have hlen : ys.length = rs.length := by rw [tp.1, rowsV_len]
    have few := ly.few
    replace F := F.addP tp
    repeat k_meth
    refine ⟨_, rfl, by omega, by omega, ?_⟩
    rename_i rl
    rename Addr => sl
    rw [Int.toNat_natCast]
    refine comp_filt0 (p := fun j => match rs[j]? with | some r => decide (r.pn = 0) | none => false) (fvs := [some (.ref rl)]) (by omega) rfl (fun j H1 R hj sm k2 => ?_) fun l1 H1 n1 => ?_
    · obtain ⟨r, q1, e1, ey, e2⟩ := rowsV_at (H := H_) (rs := rs) TpA.e (i := j) (List.getElem?_eq_getElem hj)
      have hrl : H1 rl = some (.lst ys) := sm _ _ hatC
      have o1 := Old.mk (M := []) hrl nm0
      have o2 := Old.mk (M := []) (sm _ _ e2) nm0
      have a1 : AtI ys ((j : Nat) : Int) (.ref q1) := ⟨atI_nat (by rw [List.getElem?_eq_getElem hj, ey])⟩
      clear F
      have F : SH H1 [] H1 [] [] := SH.nil
      rw [e1] at k2
      repeat k_meth
      rw [show decide (((r.pn : Nat) : Int) = 0) = decide (r.pn = 0) from decide_eq_decide.mpr (by omega)]
      exact k2 _ F.sm
    generalize hns : (List.range ys.length).filter (fun j => match rs[j]? with | some r => decide (r.pn = 0) | none => false) = ns at n1
    have nsl : ns.length ≤ 40 := by rw [← hns]; exact Nat.le_trans (List.length_filter_le _ _) (by rw [List.length_range]; omega)
    have nnd : ns.Nodup := by rw [← hns]; exact List.nodup_range.filter _
    have nlt : ∀ k ∈ ns, k < rs.length := fun k hk => by rw [← hns] at hk; have := List.mem_range.mp (List.mem_filter.mp hk).1; omega
    replace F := F.newL n1
    repeat k_meth
    intro ms pm
    repeat k_meth
    rename Addr => mp
    have pml := pm.length_eq
    have mnd : ms.Nodup := pm.nodup_iff.mpr nnd
    refine forL_by (xs := ms.map fun n => V.int (n : Nat)) (fun i σ' H' => ∃ (o4 o5 o6 o7 o8 o9 o10 o11 : Option V) (x y z : Int) (ks : List Nat) (ss qs : List Rw) (zs ws : List V), σ' = [some (.ref bx), some (.int (n : Nat)), some (.ref rl), some (.ref sl), o4, o5, o6, o7, o8, o9, o10, o11] ∧ Slid n rs ks ss qs ∧ (∀ k ∈ ks, k ∈ ms.take i) ∧ ss.length ≤ i ∧ SH H [bx] H' [(mp, .lst (ms.map fun n => V.int (n : Nat))), (rl, .lst ws), (sl, .lst zs), (bx, .lst [.int x, .int y, .int z])] [.tps ws (rowsV qs), .tps zs (rowsV ss)]) ⟨_, _, _, _, _, _, _, _, x_, y_, c_, [], [], rs, [], ys, rfl, .nil, by simp, Nat.le_refl _, (F.addP (show TupsAt _ [] (rowsV []) from TupsAt.nil)).sub SbC.s (by simp)⟩ ?_ ?_ ?_
    · clear F
      rintro i σ' H' _ ⟨_, _, _, _, _, _, _, _, x, y, z, ks, ss, qs, zs, ws, rfl, sld, hks, sl1, F⟩
      exact SqA.e
    · clear F
      rintro i v σ' H' hv ⟨_, _, _, _, _, _, _, _, x, y, z, ks, ss, qs, zs, ws, rfl, sld, hks, sl1, F⟩
      have I := slid_inv as (fun r hr => (ly.good r hr).le) sld
      rw [List.getElem?_map] at hv
      cases em : ms[i]? with
      | none => rw [em] at hv; cases hv
      | some k =>
        rw [em] at hv
        cases hv
        have hi : i < ms.length := (List.getElem?_eq_some_iff.mp em).1
        have hkl : k < qs.length := by rw [I.len]; exact nlt k (pm.mem_iff.mp (List.mem_of_getElem? em))
        have hkn : k ∉ ks := fun z => by
          obtain ⟨j, hj, ej⟩ := List.getElem_of_mem (hks k z)
          rw [List.getElem_take] at ej
          rw [List.length_take] at hj
          have := (List.getElem?_eq_some_iff.mp em).2
          exact List.pairwise_iff_getElem.mp mnd j i (by omega) hi (by omega) (by rw [ej, this])
        have hks2 : ∀ k' ∈ ks ++ [k], k' ∈ ms.take (i + 1) := fun k' hk' => by
          rw [List.take_add_one, em]
          rcases List.mem_append.mp hk' with h | h
          · exact List.mem_append_left _ (hks k' h)
          · rw [List.mem_singleton.mp h]; simp
        have hq : qs[k]? = some qs[k] := List.getElem?_eq_getElem hkl
        generalize qs[k] = q at hq
        obtain ⟨q1, ey, e2⟩ := (TpA.e : TupsAt H' ws (rowsV qs)).2 k (rowV q) (by unfold rowsV; rw [List.getElem?_map, hq]; rfl)
        have wl : ws.length = qs.length := by rw [(TpA.e : TupsAt H' ws (rowsV qs)).1, rowsV_len]
        have ql := I.len
        have a1 : AtI ws ((k : Nat) : Int) (.ref q1) := ⟨atI_nat ey⟩
        replace F := F.addT e2
        repeat k_meth
        refine i_dec (fun h => ?_) (fun h => ?_)
        · repeat k_meth
          refine ⟨n, k, rl, ws, qs, q, rfl, hatC, TpA.e, by omega, hq, room_at I hq, fun i r e => by have := I.inn i r e; omega, fun lo hh t H2 h1 h2 h3 rm sm et => ?_⟩
          replace F := (F.same sm).addT et
          repeat k_meth
          refine w_ixM SqA.e lo_ hi_ fun v hv => ?_
          obtain ⟨to, rfl, ht0, ht1⟩ := pickL4 (lo := ((lo : Nat) : Int)) (hi := ((hh : Nat) : Int) + 1) hv (by omega)
          clear hv
          have hkw : k < ws.length := by omega
          have zl : zs.length = ss.length := by rw [(TpA.e : TupsAt H_ zs (rowsV ss)).1, rowsV_len]
          have hzl : zs.length < sizeLine := Nat.lt_of_le_of_lt (show zs.length ≤ 40 by omega) (by decide)
          repeat k_meth
          rename_i pA _ _
          rw [Int.toNat_natCast] at F
          have t1 : TupsAt H_ (zs ++ [.ref pA]) (rowsV (ss ++ [⟨q.nm, q.st, q.sz, to⟩])) := by
            unfold rowsV
            rw [List.map_append]
            exact TupsAt.snoc (TpA.e : TupsAt H_ zs (rowsV ss)) hatC
          have t2 : TupsAt H_ (ws.set k (.ref p_)) (rowsV (qs.set k ⟨q.nm, to, q.sz, 0⟩)) := tups_set TpA.e hatC
          replace F := (F.addP t1).addP t2
          exact ⟨_, _, _, _, _, _, _, _, x_, y_, z_, ks ++ [k], ss ++ [⟨q.nm, q.st, q.sz, to⟩], qs.set k ⟨q.nm, to, q.sz, 0⟩, zs ++ [.ref pA], ws.set k (.ref p_), rfl, .snoc sld hkn hq (rm to (by omega) (by omega)), hks2, by rw [List.length_append, List.length_singleton]; omega, F.sub SbC.s (by simp)⟩
        · repeat k_meth
          exact ⟨_, _, _, _, _, _, _, _, x_, y_, z_, ks, ss, qs, zs, ws, rfl, sld, fun k' hk' => hks2 k' (List.mem_append_left _ hk'), by omega, F.sub SbC.s (by simp)⟩
    · clear F
      rintro σ' H' ⟨_, _, _, _, _, _, _, _, x, y, z, ks, ss, qs, zs, ws, rfl, sld, hks, sl1, F⟩
      rw [List.length_map] at sl1
      repeat k_meth
      exact kk x y z ks ss qs p_ sl rl zs _ sld (by omega) (F.sub SbC.s (by simp))
end
class TyP (K : PySem.W.Frag) (H : Hp) (ps : List (V × V)) : Prop where
  e : ∀ p ∈ ps, Tyd K H p.1 ∧ Tyd K H p.2
class OldTP (K : PySem.W.Frag) (H0 : Hp) (ps : List (V × V)) : Prop where
  e : ∀ p ∈ ps, Tyd K H0 p.1 ∧ Tyd K H0 p.2
class WayI (w : Int) (f b : V) (f' b' : outParam V) : Prop where
  e : Way w f b f' b'
class ToO (xs : List V) (ps : List (V × V)) (f b : V) (zs : outParam (List V)) : Prop where
  e : ∃ cs, Car xs.length ps f b (.inl cs) ∧ doN xs cs = zs
class ToB (xs : List V) (ps : List (V × V)) (f b : V) (v : outParam V) : Prop where
  e : Car xs.length ps f b (.inr v)
class DoO (xs : List V) (cs : List (Nat × Nat)) (zs : outParam (List V)) : Prop where
  e : (∀ c ∈ cs, c.1 < xs.length ∧ c.2 < xs.length) ∧ doN xs cs = zs
section
variable {K : PySem.W.Frag} {H H0 : Hp} {Q : VK} {E : XK} {a l q : Addr} {xs ys zs : List V} {ps : List (V × V)} {cs : List (Nat × Nat)} {f b f' b' v : V} {tf tb : String} {w : Int} {L : List (Addr × HO)} {I : List Im}
instance typ_nat : TyP K H (cs.map vP) := ⟨fun p hp => by
  obtain ⟨c, _, rfl⟩ := List.mem_map.mp hp
  exact ⟨⟨_, .int _⟩, ⟨_, .int _⟩⟩⟩
instance (priority := low) typ_old [F : SH H0 [] H L I] [h : OldTP K H0 ps] : TyP K H ps := ⟨fun p hp => ⟨(h.e p hp).1.kept F.sm, (h.e p hp).2.kept F.sm⟩⟩
instance way0 : WayI 0 f b (.int 0) .non := ⟨.inl ⟨rfl, rfl, rfl⟩⟩
instance way1 : WayI 1 f b f .non := ⟨.inr (.inl ⟨rfl, rfl, rfl⟩)⟩
instance way2 : WayI 2 f b f b := ⟨.inr (.inr ⟨rfl, rfl, rfl⟩)⟩
instance go_toldO [h1 : Hat H a (.lst xs)] [h2 : Hat H l (.lst ys)] [t : TpA H ys (rowsP ps)] [i : IdL xs] [wy : WayI w f b f' b'] [y1 : TyA K H f' tf] [y2 : TyA K H b' tb] [y3 : TyP K H ps] [o : ToO xs ps f' b' zs] : Go (sp_ltold K [.ref a, .ref l, f, b, .int w] H Q E) (Sd (xs.length ≤ 1000 ∧ ys.length ≤ 100000) (∀ p H', New H H' p (.lst zs) → Q (.ref p) H')) :=
  ⟨fun s => ⟨a, l, xs, ys, ps, f, b, f', b', w, tf, tb, rfl, h1.e, h2.e, t.e, s.1.1, s.1.2, i.e, wy.e, y1.e, y2.e, y3.e, .inl ⟨o.e.choose, o.e.choose_spec.1, by rw [o.e.choose_spec.2]; exact s.2⟩⟩⟩
instance go_toldB [h1 : Hat H a (.lst xs)] [h2 : Hat H l (.lst ys)] [t : TpA H ys (rowsP ps)] [i : IdL xs] [wy : WayI w f b f' b'] [y1 : TyA K H f' tf] [y2 : TyA K H b' tb] [y3 : TyP K H ps] [o : ToB xs ps f' b' v] : Go (sp_ltold K [.ref a, .ref l, f, b, .int w] H Q E) (Sd (xs.length ≤ 1000 ∧ ys.length ≤ 100000) (∀ q H', Same H H' → H' q = some (.tup [.str "refused", v]) → Q (.ref q) H')) :=
  ⟨fun s => ⟨a, l, xs, ys, ps, f, b, f', b', w, tf, tb, rfl, h1.e, h2.e, t.e, s.1.1, s.1.2, i.e, wy.e, y1.e, y2.e, y3.e, .inr ⟨v, o.e, s.2⟩⟩⟩
instance go_ldone [h1 : Hat H a (.lst xs)] [h2 : Hat H l (.lst ys)] [t : TpA H ys (rowsN cs)] [o : DoO xs cs zs] : Go (sp_ldone [.ref a, .ref l] H Q E) (Sd (xs.length ≤ 1000) (∀ p H', New H H' p (.lst zs) → Q (.ref p) H')) :=
  ⟨fun s => ⟨a, l, xs, ys, cs, rfl, h1.e, h2.e, t.e, s.1, o.e.1, by rw [o.e.2]; exact s.2⟩⟩
instance go_lsame [h1 : Hat H q (.tup [.str "refused", v])] [y : TyA K H v tf] [i : IdV v] : Go (sp_lsame K [.ref q, v] H Q E) (∀ H', Same H H' → Q (.bl true) H') := ⟨fun k => ⟨q, v, tf, rfl, h1.e, y.e, i.e, k⟩⟩
instance go_lclean [h2 : Hat H l (.lst ys)] [t : TpA H ys (rowsN cs)] : Go (sp_lclean [.ref l] H Q E) (Sd (ys.length ≤ 100000) (∀ (b : Bool) H', Same H H' → Q (.bl b) H')) := ⟨fun s => ⟨l, ys, cs, rfl, h2.e, t.e, s.1, s.2⟩⟩
end
theorem do1_idv {xs : List V} {c : Nat × Nat} (h : xs.all idV = true) : (do1 xs c).all idV = true := by
  rw [List.all_eq_true] at h ⊢
  intro v hv
  unfold do1 at hv
  rcases List.mem_or_eq_of_mem_set hv with h1 | h1
  · exact h v h1
  · rw [h1, List.getD_eq_getElem?_getD]
    cases e : xs[c.1]? with
    | none => rfl
    | some u => exact h u (List.mem_of_getElem? e)
theorem doN_idv {cs : List (Nat × Nat)} : ∀ {xs : List V}, xs.all idV = true → (doN xs cs).all idV = true := by
  induction cs with
  | nil => exact fun h => h
  | cons c t ih => exact fun h => ih (do1_idv h)
instance idl_do {xs : List V} {cs : List (Nat × Nat)} [h : IdL xs] : IdL (doN xs cs) := ⟨doN_idv h.e⟩
theorem do1_twice {xs : List V} {c : Nat × Nat} (h : c.1 < xs.length ∧ c.2 < xs.length) : do1 (do1 xs c) c = do1 xs c := by
  refine List.ext_getElem? fun i => ?_
  rw [do1_at (by rw [do1_len]; exact h.1) (by rw [do1_len]; exact h.2), do1_at h.1 h.2, do1_at h.1 h.2]
  by_cases e : i = c.2
  · rw [if_pos e, if_pos e]; split <;> rfl
  · rw [if_neg e]
theorem doN_split {xs : List V} {cs : List (Nat × Nat)} (m : Nat) : doN (doN xs (cs.take m)) (cs.drop m) = doN xs cs := by rw [← doN_app, List.take_append_drop]
theorem doN_again {xs : List V} {cs : List (Nat × Nat)} (hin : ∀ c ∈ cs, c.1 < xs.length ∧ c.2 < xs.length) {m : Nat} (h : m < cs.length) : doN (doN xs (cs.take (m + 1))) (cs.drop m) = doN xs cs := by
  have e := List.getElem?_eq_getElem h
  rw [doN_take e, List.drop_eq_getElem_cons h]
  show doN (do1 (do1 (doN xs (cs.take m)) cs[m]) cs[m]) (cs.drop (m + 1)) = _
  rw [do1_twice (by rw [doN_len]; exact hin _ (List.getElem_mem h)), ← doN_take e]
  exact doN_split (m + 1)
theorem map_cut {cs : List (Nat × Nat)} {i n : Nat} : ((cs.map vP).drop i).take n = ((cs.drop i).take n).map vP := by rw [List.map_take, List.map_drop]
theorem to_all {xs : List V} {cs : List (Nat × Nat)} {m n : Nat} (hin : ∀ c ∈ cs, c.1 < n ∧ c.2 < n) (hx : xs.length = n) (h : m ≤ cs.length) : Car xs.length (cs.map vP) (.int (m : Nat)) .non (.inl (cs.drop m)) :=
  .ok (i := m) (j := cs.length) (by have := MkOk.all (n := (cs.map vP).length) (i := m) (by rw [List.length_map]; exact h); rw [List.length_map] at this; rw [List.length_map]; exact this) (by rw [map_cut, List.take_of_length_le (by rw [List.length_drop]; exact Nat.le_refl _)]) fun c hc => by rw [hx]; exact hin c (List.mem_of_mem_drop hc)
theorem to_part {xs : List V} {cs : List (Nat × Nat)} {m j n : Nat} (hin : ∀ c ∈ cs, c.1 < n ∧ c.2 < n) (hx : xs.length = n) (h1 : m ≤ j) (h : j ≤ cs.length) : Car xs.length (cs.map vP) (.int (m : Nat)) (.int (j : Nat)) (.inl ((cs.drop m).take (j - m))) :=
  .ok (i := m) (j := j) (.to h1 (by rw [List.length_map]; exact h)) map_cut fun c hc => by rw [hx]; exact hin c (List.mem_of_mem_drop (List.mem_of_mem_take hc))
theorem cut_takeN {ys : List V} {i : Nat} : cutV ys none (some (i : Int)) = ys.take i := by
  unfold cutV
  rw [HT.sIx_nat]
  show (ys.drop 0).take (min i ys.length - 0) = _
  rw [List.drop_zero, Nat.sub_zero]
  by_cases h : i ≤ ys.length
  · rw [show min i ys.length = i by omega]
  · rw [show min i ys.length = ys.length by omega, List.take_length, List.take_of_length_le (by omega)]
def sp_lmarks (K : PySem.W.Frag) : Sp := fun vs H Q _ => ∃ (bx a l : Addr) (x y z : Int) (xs ys : List V) (cs : List (Nat × Nat)), vs = [.ref bx, .ref a, .ref l] ∧ H bx = some (.lst [.int x, .int y, .int z]) ∧ H a = some (.lst xs) ∧ H l = some (.lst ys) ∧ TupsAt H ys (rowsN cs) ∧ xs.length ≤ 1000 ∧ ys.length ≤ 100000 ∧ xs.all idV = true ∧ (∀ c ∈ cs, c.1 < xs.length ∧ c.2 < xs.length) ∧ bx ≠ a ∧ bx ≠ l ∧ ∀ (x' y' z' : Int) (H' : Hp), Kp bx H H' → H' bx = some (.lst [.int x', .int y', .int z']) → Q (.bl true) H'
section
variable {P : Program} {w : World} {K : PySem.W.Frag} {mg : Str → Option Value} {base : Heap} {c : Nat → Addr} {R  : Addr}
theorem D_lmarks (T : Txt K mg c R ) : Def P w K mg base CX0 6 "_law_marks_right" ["_law_box_here", "_law_cells", "_law_copies_here"] (sp_lmarks K) := by
  have D_ldone := D_ldone (P := P) (w := w) (base := base) T
  have D_ltold := D_ltold (P := P) (w := w) (base := base) T
  have D_lclean := D_lclean (P := P) (w := w) (base := base) T
  have D_take := D_take (P := P) (w := w) (base := base) T
  refine def_of T.d_lmarks sc_lmarks (fun vs H Q E h => ?_) (fun _ _ _ _ _ _ us hl => match us, hl with | [_, _, _], _ => rfl) (fun f cdv A outer s H vs Q E hr h => ?_)
  · obtain ⟨bx, a, l, x, y, z, xs, ys, cs, rfl, _⟩ := h
    rfl
  · obtain ⟨bx, a, l, x, y, z, xs, ys, cs, rfl, hbx, ha, hl, tp, hz, hy, idx, hin, nba, nbl, kk⟩ := h
    have nd := sc_lmarks.nd
    refine ⟨_, (pss_cons (ps_set (i := 3) nd rfl (Or.inl rfl) (pe_def D_ldone hr (pa_cons (pv 1) (pa_cons (pv 2) pa_nil))))
      (pss_cons (ps_set (i := 4) nd rfl (Or.inl rfl) (pe_callB call_lenN rfl T.n_len boot_len (pa_cons (pv 2) pa_nil)))
      (pss_cons (ps_if (PW.pt (pw_or (pt_cmpR (op_neI hr) (pe_def D_ltold hr (pa_cons (pv 1) (pa_cons (pv 2) (pa_cons pe_int (pa_cons pe_non (pa_cons pe_int pa_nil)))))) (pv 3) (nomark _)) (pw_or1 (pt_cmpR (op_neI hr) (pe_def D_ltold hr (pa_cons (pv 1) (pa_cons (pv 2) (pa_cons pe_int (pa_cons pe_non (pa_cons pe_int pa_nil)))))) (pv 3) (nomark _))))) (pss_one (ps_ret pe_bl)) pss_nil)
      (pss_cons (ps_for PassesOwn.never rfl (pi_range1 rfl T.n_range (pa_cons (pe_callB (call_minN rfl) rfl T.n_min boot_min (pa_cons pe_int (pa_cons (pe_op op_add (pv 4) pe_int) pa_nil))) pa_nil)) (pg_name (i := 5) nd rfl (Or.inl rfl)) (pss_cons (ps_set (i := 6) nd rfl (Or.inl rfl) (pe_ix ix_list (pe_lstA (pa_cons (pv 5) (pa_cons (pe_def D_take hr (pa_cons (pv 0) (pa_cons (pe_op op_add (pv 4) pe_int) pa_nil))) pa_nil))) (pe_callTy call_intN rfl T.n_int boot_int (pa_cons (pe_cmpR op_gt (pv 4) pe_int (nomark _)) pa_nil)) (fun _ _ => rfl)))
        (pss_cons (ps_set (i := 7) nd rfl (Or.inl rfl) (pe_def D_ltold hr (pa_cons (pv 1) (pa_cons (pv 2) (pa_cons pe_int (pa_cons (pv 6) (pa_cons pe_int pa_nil)))))))
        (pss_cons (ps_if (PW.pt (pw_or (pt_not (pt_val (pe_callB call_isT rfl T.n_isinstance boot_isinstance (pa_cons (pv 7) (pa_cons (pe_ty (T := "list") rfl T.n_list boot_list) pa_nil))))) (pw_or1 (pt_cmpR (op_neI hr) (pv 7) (pe_def D_ldone hr (pa_cons (pv 1) (pa_cons (pe_slice sl_listA (pv 2) po_none (po_some (pv 6))) pa_nil))) (nomark _))))) (pss_one (ps_ret pe_bl)) pss_nil)
        (pss_cons (ps_if (PW.pt (pw_or (pt_cmpR (op_neI hr) (pe_def D_ltold hr (pa_cons (pv 7) (pa_cons (pv 2) (pa_cons (pv 6) (pa_cons (pv 4) (pa_cons (pe_op op_add pe_int (pe_op op_mod (pv 5) pe_int)) pa_nil)))))) (pv 3) (nomark _)) (pw_or1 (pt_cmpR (op_neI hr) (pe_def D_ltold hr (pa_cons (pv 7) (pa_cons (pv 2) (pa_cons (pv 6) (pa_cons (pv 6) (pa_cons pe_int pa_nil)))))) (pv 7) (nomark _))))) (pss_one (ps_ret pe_bl)) pss_nil)
        (pss_cons (ps_if (PW.pt (pw_and (pt_cmpR op_gt (pv 6) pe_int (nomark _)) (pw_and (pt_val (pe_def D_lclean hr (pa_cons (pv 2) pa_nil))) (pw_and1 (pt_cmpR (op_neI hr) (pe_def D_ltold hr (pa_cons (pv 7) (pa_cons (pv 2) (pa_cons (pe_op op_sub (pv 6) pe_int) (pa_cons pe_non (pa_cons pe_int pa_nil)))))) (pv 3) (nomark _)))))) (pss_one (ps_ret pe_bl)) pss_nil)
        (pss_one (ps_expr (pe_appendA (pv 7) pe_int)))))))))
      (pss_one (ps_ret (pe_cmpR (op_eqI hr) (pe_def D_ltold hr (pa_cons (pv 1) (pa_cons (pv 2) (pa_cons pe_int (pa_cons pe_non (pa_cons pe_int pa_nil)))))) (pv 3) (nomark _)))))))), ?_⟩
    clear nd D_ldone D_ltold D_lclean D_take
    rw [show start ["_law_box_here", "_law_cells", "_law_copies_here", "_law_whole", "_law_many_here", "_law_lap", "_law_mark", "_law_half"] [.ref bx, .ref a, .ref l] = [some (.ref bx), some (.ref a), some (.ref l), none, none, none, none, none] from rfl]
    try dsimp only [cx_K, cx_K2]
    have F : SH H [bx] H [(bx, .lst [.int x, .int y, .int z])] [] := SH.nil.addM List.mem_cons_self hbx rfl (by simp)
    have o_ha := Old.mk (M := [bx]) ha (nm1 (Ne.symm nba))
    have o_hl := Old.mk (M := [bx]) hl (nm1 (Ne.symm nbl))
    have ix : IdL xs := ⟨idx⟩
    have yl : ys.length = cs.length := by rw [rowsP_len tp, List.length_map]
    replace F := F.addP tp
    have d1 : DoO xs cs (doN xs cs) := ⟨hin, rfl⟩
    have o1 : ToO xs (cs.map vP) (.int 0) .non (doN xs cs) := ⟨cs, to_all (m := 0) hin rfl (Nat.zero_le _), rfl⟩
    repeat k_meth
    rename_i wh _ _
    refine forR0_by (fun i σ' H' => ∃ (o5 o6 o7 : Option V) (x y z : Int), σ' = [some (.ref bx), some (.ref a), some (.ref l), some (.ref wh), some (.int (ys.length : Nat)), o5, o6, o7] ∧ SH H [bx] H' [(wh, .lst (doN xs cs)), (bx, .lst [.int x, .int y, .int z])] [.tps ys (rowsN cs)]) ⟨_, _, _, x, y, z, rfl, F.sub SbC.s (by simp)⟩ ?_ ?_
    · clear F
      rintro i σ' H' hi ⟨_, _, _, x, y, z, rfl, F⟩
      have hi2 : i ≤ cs.length := by omega
      repeat k_meth
      have hidx : 0 ≤ (if decide (11 < ((ys.length : Nat) : Int)) = true then (1 : Int) else 0) ∧ (if decide (11 < ((ys.length : Nat) : Int)) = true then (1 : Int) else 0) < 2 := by split <;> omega
      refine w_ixM SqA.e hidx.1 hidx.2 fun v hv => ?_
      obtain ⟨m, rfl, hm0, hm⟩ := pickL (lo := 0) (hi := ((ys.length : Nat) : Int) + 1) (xs := [_, _]) hv (fun a ha => by
        simp only [List.mem_cons, List.not_mem_nil, or_false] at ha
        rcases ha with rfl | rfl <;> omega) (by omega)
      clear hv hidx
      have hmc : m ≤ cs.length := by omega
      have hl1 : (doN xs (cs.take m)).length = xs.length := doN_len
      have hl2 : (doN xs (cs.take m)).length ≤ 1000 := by omega
      have o2 : ToO xs (cs.map vP) (.int 0) (.int (m : Nat)) (doN xs (cs.take m)) := ⟨_, to_part (m := 0) hin rfl (Nat.zero_le _) hmc, by rw [List.drop_zero, Nat.sub_zero]⟩
      have d2 : DoO xs (cs.take m) (doN xs (cs.take m)) := ⟨fun c hc => hin c (List.mem_of_mem_take hc), rfl⟩
      have hin2 : ∀ c ∈ cs, c.1 < (doN xs (cs.take m)).length ∧ c.2 < (doN xs (cs.take m)).length := fun c hc => by rw [doN_len]; exact hin c hc
      repeat k_meth
      rw [cut_takeN] at F
      have tk : TupsAt H_ (ys.take m) (rowsN (cs.take m)) := by
        have := tupsP_cut 0 m (TpA.e : TupsAt H_ ys (rowsN cs))
        rw [List.drop_zero, List.drop_zero, ← List.map_take] at this
        exact this
      replace F := F.addP tk
      have o3 : ToO (doN xs (cs.take m)) (cs.map vP) (.int (m : Nat)) .non (doN xs cs) := ⟨_, to_all hin2 rfl hmc, doN_split m⟩
      have o4 : ToO (doN xs (cs.take m)) (cs.map vP) (.int (m : Nat)) (.int (ys.length : Nat)) (doN xs cs) := ⟨_, to_part hin2 rfl (by omega) (Nat.le_of_eq yl), by rw [show (cs.drop m).take (ys.length - m) = cs.drop m from List.take_of_length_le (by rw [List.length_drop]; omega)]; exact doN_split m⟩
      have o5 : ToO (doN xs (cs.take m)) (cs.map vP) (.int (m : Nat)) (.int (m : Nat)) (doN xs (cs.take m)) := ⟨_, to_part hin2 rfl (Nat.le_refl _) hmc, by rw [Nat.sub_self, List.take_zero]; rfl⟩
      repeat k_meth
      rcases (show (i : Int) % 2 = 0 ∨ (i : Int) % 2 = 1 by omega) with hw | hw
      · rw [hw, show (1 + 0 : Int) = 1 from rfl]
        repeat k_meth
        have hsz : (doN xs (cs.take m)).length < sizeLine := Nat.lt_of_le_of_lt hl2 (by decide)
        by_cases hm1 : 0 < m
        · have o6 : ToO (doN xs (cs.take m)) (cs.map vP) (.int (((m : Nat) : Int) - 1)) .non (doN xs cs) := by
            rw [show ((m : Nat) : Int) - 1 = ((m - 1 : Nat) : Int) by omega]
            refine ⟨_, to_all hin2 rfl (by omega), ?_⟩
            have := doN_again hin (m := m - 1) (by omega)
            rw [show m - 1 + 1 = m by omega] at this
            exact this
          repeat k_meth
          intro b
          cases b
          · repeat k_meth
            exact ⟨_, _, _, x_, y_, z_, rfl, F.sub SbC.s (by simp)⟩
          · repeat k_meth
            exact ⟨_, _, _, x_, y_, z_, rfl, F.sub SbC.s (by simp)⟩
        · repeat k_meth
          exact ⟨_, _, _, x_, y_, z_, rfl, F.sub SbC.s (by simp)⟩
      · rw [hw, show (1 + 1 : Int) = 2 from rfl]
        repeat k_meth
        have hsz : (doN xs (cs.take m)).length < sizeLine := Nat.lt_of_le_of_lt hl2 (by decide)
        by_cases hm1 : 0 < m
        · have o6 : ToO (doN xs (cs.take m)) (cs.map vP) (.int (((m : Nat) : Int) - 1)) .non (doN xs cs) := by
            rw [show ((m : Nat) : Int) - 1 = ((m - 1 : Nat) : Int) by omega]
            refine ⟨_, to_all hin2 rfl (by omega), ?_⟩
            have := doN_again hin (m := m - 1) (by omega)
            rw [show m - 1 + 1 = m by omega] at this
            exact this
          repeat k_meth
          intro b
          cases b
          · repeat k_meth
            exact ⟨_, _, _, x_, y_, z_, rfl, F.sub SbC.s (by simp)⟩
          · repeat k_meth
            exact ⟨_, _, _, x_, y_, z_, rfl, F.sub SbC.s (by simp)⟩
        · repeat k_meth
          exact ⟨_, _, _, x_, y_, z_, rfl, F.sub SbC.s (by simp)⟩
    · clear F
      rintro σ' H' ⟨_, _, _, x, y, z, rfl, F⟩
      repeat k_meth
      exact kk _ _ _ _ F.kpo hatC
end
instance nx_smT {H0 H : Hp} {M : List Addr} {L : List (Addr × HO)} {I : List Im} {r : List V} {Z : Addr → Hp → Prop} [F : SH H0 M H L I] : Go (∀ q H', Same H H' → H' q = some (.tup r) → Z q H') (∀ H' q, SH H0 M H' L (.tup q r :: I) → Z q H') := ⟨fun k q H' s e => k H' q ((F.same s).addT e)⟩
theorem Kp_sm {bx : Addr} {H H1 H2 : Hp} (k : Kp bx H H1) (s : Same H1 H2) : Kp bx H H2 := fun b u n e => s _ _ (k b u n e)
def sp_lnomarks (K : PySem.W.Frag) : Sp := fun vs H Q _ => ∃ (bx a l : Addr) (x y z : Int) (xs ys : List V) (cs : List (Nat × Nat)), vs = [.ref bx, .ref a, .ref l] ∧ H bx = some (.lst [.int x, .int y, .int z]) ∧ H a = some (.lst xs) ∧ H l = some (.lst ys) ∧ TupsAt H ys (rowsN cs) ∧ xs.length ≤ 1000 ∧ ys.length ≤ 100000 ∧ xs.all idV = true ∧ bx ≠ a ∧ bx ≠ l ∧ ∀ (x' y' z' : Int) (H' : Hp), Kp bx H H' → H' bx = some (.lst [.int x', .int y', .int z']) → Q (.bl true) H'
def Odd (K : PySem.W.Frag) (H : Hp) (n : Nat) (v : V) : Prop := (∃ t, TyOf K H v (.type t)) ∧ idV v = true ∧ inB v 0 (n : Nat) = false ∧ v ≠ .non
theorem inB_up {v : V} {lo : Nat} {hi : Int} (h : inB v 0 hi = false) : inB v (lo : Nat) hi = false := by
  cases v with
  | int i =>
    have h : (decide (0 ≤ i) && decide (i ≤ hi)) = false := h
    show (decide (((lo : Nat) : Int) ≤ i) && decide (i ≤ hi)) = false
    rw [Bool.and_eq_false_iff, decide_eq_false_iff_not, decide_eq_false_iff_not] at h ⊢
    omega
  | _ => rfl
theorem odd_int {K : PySem.W.Frag} {H : Hp} {n : Nat} {i : Int} (h : i < 0 ∨ (n : Int) < i) : Odd K H n (.int i) := ⟨⟨_, .int i⟩, rfl, by
  show (decide (0 ≤ i) && decide (i ≤ (n : Int))) = false
  rcases h with h | h
  · rw [decide_eq_false (by omega)]; rfl
  · rw [decide_eq_false (show ¬ i ≤ (n : Int) by omega), Bool.and_false], by intro z; cases z⟩
section
variable {P : Program} {w : World} {K : PySem.W.Frag} {mg : Str → Option Value} {base : Heap} {c : Nat → Addr} {R  : Addr}
theorem D_lnomarks (T : Txt K mg c R ) : Def P w K mg base CX0 6 "_law_no_marks" ["_law_box_here", "_law_cells", "_law_copies_here"] (sp_lnomarks K) := by
  have D_take := D_take (P := P) (w := w) (base := base) T
  have D_lsame := D_lsame (P := P) (w := w) (base := base) T
  have D_ltold := D_ltold (P := P) (w := w) (base := base) T
  refine def_of T.d_lnomarks sc_lnomarks (fun vs H Q E h => ?_) (fun _ _ _ _ _ _ us hl => match us, hl with | [_, _, _], _ => rfl) (fun f cdv A outer s H vs Q E hr h => ?_)
  · obtain ⟨bx, a, l, x, y, z, xs, ys, cs, rfl, _⟩ := h
    rfl
  · obtain ⟨bx, a, l, x, y, z, xs, ys, cs, rfl, hbx, ha, hl, tp, hz, hy, idx, nba, nbl, kk⟩ := h
    have nd := sc_lnomarks.nd
    refine ⟨_, (pss_cons (ps_set (i := 3) nd rfl (Or.inl rfl) (pe_callB call_lenN rfl T.n_len boot_len (pa_cons (pv 2) pa_nil)))
      (pss_cons (ps_set (i := 4) nd rfl (Or.inl rfl) (pe_lstA (pa_cons (pe_un un_neg pe_int) (pa_cons (pe_op op_add (pv 3) pe_int) (pa_cons (pe_op op_add (pv 3) (pe_op op_pow pe_int pe_int)) (pa_cons pe_bl (pa_cons pe_str (pa_cons (pe_lstA (pa_cons pe_int pa_nil)) pa_nil))))))))
      (pss_cons (ps_set (i := 5) nd rfl (Or.inl rfl) (pe_ix ix_list (pv 4) (pe_def D_take hr (pa_cons (pv 0) (pa_cons pe_int pa_nil))) (fun _ _ => rfl)))
      (pss_cons (ps_set (i := 6) nd rfl (Or.inl rfl) (pe_def D_take hr (pa_cons (pv 0) (pa_cons (pe_op op_add (pv 3) pe_int) pa_nil))))
      (pss_cons (ps_set (i := 7) nd rfl (Or.inl rfl) (pe_ix ix_list (pe_op op_catA (pv 4) (pe_lstA (pa_cons (pe_op op_sub (pv 6) pe_int) pa_nil))) (pe_def D_take hr (pa_cons (pv 0) (pa_cons pe_int pa_nil))) (fun _ _ => rfl)))
      (pss_cons (ps_set (i := 8) nd rfl (Or.inl rfl) (pe_ix ix_list (pv 4) (pe_def D_take hr (pa_cons (pv 0) (pa_cons pe_int pa_nil))) (fun _ _ => rfl)))
      (pss_cons (ps_if (pt_not (pt_val (pe_def D_lsame hr (pa_cons (pe_def D_ltold hr (pa_cons (pv 1) (pa_cons (pv 2) (pa_cons (pv 5) (pa_cons pe_non (pa_cons pe_int pa_nil)))))) (pa_cons (pv 5) pa_nil))))) (pss_one (ps_ret pe_bl)) pss_nil)
      (pss_cons (ps_if (pt_not (pt_val (pe_def D_lsame hr (pa_cons (pe_def D_ltold hr (pa_cons (pv 1) (pa_cons (pv 2) (pa_cons (pv 5) (pa_cons (pv 8) (pa_cons pe_int pa_nil)))))) (pa_cons (pv 5) pa_nil))))) (pss_one (ps_ret pe_bl)) pss_nil)
      (pss_one (ps_ret (pe_def D_lsame hr (pa_cons (pe_def D_ltold hr (pa_cons (pv 1) (pa_cons (pv 2) (pa_cons (pv 6) (pa_cons (pv 7) (pa_cons pe_int pa_nil)))))) (pa_cons (pv 7) pa_nil))))))))))))), ?_⟩
    clear nd D_take D_lsame D_ltold
    rw [show start ["_law_box_here", "_law_cells", "_law_copies_here", "_law_many_here", "_law_some", "_law_bad", "_law_first", "_law_behind", "_law_worse"] [.ref bx, .ref a, .ref l] = [some (.ref bx), some (.ref a), some (.ref l), none, none, none, none, none, none] from rfl]
    try dsimp only [cx_K, cx_K2]
    have F : SH H [bx] H [(bx, .lst [.int x, .int y, .int z])] [] := SH.nil.addM List.mem_cons_self hbx rfl (by simp)
    have o_ha := Old.mk (M := [bx]) ha (nm1 (Ne.symm nba))
    have o_hl := Old.mk (M := [bx]) hl (nm1 (Ne.symm nbl))
    have ix : IdL xs := ⟨idx⟩
    have yl : ys.length = cs.length := by rw [rowsP_len tp, List.length_map]
    replace F := F.addP tp
    repeat k_meth
    refine w_ixM SqA.e lo_ hi_ fun bad hbad => ?_
    repeat k_meth
    rename_i zz _ _ _ _ _ _ _ _ _ f1 _ _ _ f1lo f1hi _ _ _ _
    refine w_ixM SqA.e lo_ hi_ fun bh hbh => ?_
    repeat k_meth
    refine w_ixM SqA.e lo_ hi_ fun wo hwo => ?_
    obtain ⟨f2, rfl⟩ : ∃ f2 : Nat, f1 = (f2 : Nat) := ⟨f1.toNat, by omega⟩
    have hzz : H_ zz = some (.lst [.int 0]) := hatC
    have odd : ∀ v ∈ [V.int (-1), V.int ((ys.length : Nat) + 1), V.int ((ys.length : Nat) + 10 ^ Int.toNat 20), V.bl true, V.str "0", V.ref zz], Odd K H_ ys.length v := by
      intro v hv
      have e20 : (10 : Int) ^ Int.toNat 20 = 100000000000000000000 := by decide
      simp only [List.mem_cons, List.not_mem_nil, or_false] at hv
      rcases hv with rfl | rfl | rfl | rfl | rfl | rfl
      · exact odd_int (.inl (by omega))
      · exact odd_int (.inr (by omega))
      · exact odd_int (.inr (by omega))
      · exact ⟨⟨_, .bl true⟩, rfl, rfl, by intro z; cases z⟩
      · exact ⟨⟨_, .str _⟩, rfl, rfl, by intro z; cases z⟩
      · exact ⟨⟨_, .lst hzz⟩, rfl, rfl, by intro z; cases z⟩
    obtain ⟨⟨t1, y1⟩, i1, b1, n1⟩ := odd bad hbad
    obtain ⟨⟨t2, y2⟩, i2, b2, n2⟩ := odd wo hwo
    have hb3 : (∃ t, TyOf K H_ bh (.type t)) ∧ idV bh = true ∧ inB bh (f2 : Nat) (ys.length : Nat) = false ∧ bh ≠ .non := by
      rcases List.mem_append.mp hbh with h | h
      · obtain ⟨a1, a2, a3, a4⟩ := odd bh h
        exact ⟨a1, a2, inB_up a3, a4⟩
      · rw [List.mem_singleton.mp h]
        refine ⟨⟨_, .int _⟩, rfl, ?_, by intro z; cases z⟩
        show (decide (((f2 : Nat) : Int) ≤ (f2 : Nat) - 1) && decide (((f2 : Nat) : Int) - 1 ≤ (ys.length : Nat))) = false
        rw [decide_eq_false (by omega)]
        rfl
    obtain ⟨⟨t3, y3⟩, i3, b3, n3⟩ := hb3
    have kp := F.kpo
    have hbx2 : H_ bx = some (.lst [.int x_, .int y_, .int z_]) := hatC
    have ha2 : H_ a = some (.lst xs) := hatC
    have hl2 : H_ l = some (.lst ys) := hatC
    have tp2 : TupsAt H_ ys (rowsN cs) := TpA.e
    clear F o_ha o_hl hbad hwo hbh odd
    have F : SH H_ [] H_ [] [.tps ys (rowsN cs)] := SH.nil.addP tp2
    have o_a := Old.mk (M := []) ha2 nm0
    have o_l := Old.mk (M := []) hl2 nm0
    have o_1 : OldT K H_ [] bad t1 := ⟨y1, fun _ _ z => by cases z⟩
    have o_2 : OldT K H_ [] wo t2 := ⟨y2, fun _ _ z => by cases z⟩
    have o_3 : OldT K H_ [] bh t3 := ⟨y3, fun _ _ z => by cases z⟩
    have v1 : IdV bad := ⟨i1⟩
    have v3 : IdV bh := ⟨i3⟩
    have ml : (cs.map vP).length = ys.length := by rw [List.length_map, yl]
    have c1 : ToB xs (cs.map vP) bad .non bad := ⟨.mark (.one (by rw [ml]; exact b1))⟩
    have c2 : ToB xs (cs.map vP) bad wo bad := ⟨.mark (.one (by rw [ml]; exact b1))⟩
    have c3 : ToB xs (cs.map vP) (.int (f2 : Nat)) bh bh := ⟨.mark (.two (by omega) n3 (by rw [ml]; exact b3))⟩
    have kq : ∀ H', Same H_ H' → Q (.bl true) H' := fun H' s => kk _ _ _ _ (Kp_sm kp s) (s _ _ hbx2)
    repeat k_meth
    exact kq _ F.sm
end
def sp_lnoplaces (K : PySem.W.Frag) : Sp := fun vs H Q _ => ∃ (bx a l : Addr) (x y z : Int) (xs ys : List V) (cs : List (Nat × Nat)), vs = [.ref bx, .ref a, .ref l] ∧ H bx = some (.lst [.int x, .int y, .int z]) ∧ H a = some (.lst xs) ∧ H l = some (.lst ys) ∧ TupsAt H ys (rowsN cs) ∧ xs.length ≤ 1000 ∧ ys.length ≤ 90000 ∧ xs.all idV = true ∧ (∀ c ∈ cs, c.1 < xs.length ∧ c.2 < xs.length) ∧ 0 < cs.length ∧ bx ≠ a ∧ bx ≠ l ∧ ∀ (x' y' z' : Int) (H' : Hp), Kp bx H H' → H' bx = some (.lst [.int x', .int y', .int z']) → Q (.bl true) H'
theorem inB_far {i : Int} {m : Nat} (h : (m : Int) ≤ i) : inB (.int i) 0 ((m : Nat) - 1) = false := by
  show (decide (0 ≤ i) && decide (i ≤ (m : Int) - 1)) = false
  rw [decide_eq_false (show ¬ i ≤ (m : Int) - 1 by omega), Bool.and_false]
def spo (cs : List (Nat × Nat)) (k : Nat) (x1 x2 : V) : List (V × V) := (cs.take k).map vP ++ (x1, x2) :: (cs.drop (k + 1)).map vP
theorem spo_len {cs : List (Nat × Nat)} {k : Nat} {x1 x2 : V} (h : k < cs.length) : (spo cs k x1 x2).length = cs.length := by
  unfold spo
  rw [List.length_append, List.length_map, List.length_take, List.length_cons, List.length_map, List.length_drop]
  omega
theorem spo_cut {cs : List (Nat × Nat)} {k i j : Nat} {x1 x2 : V} (h : k < cs.length) (hi : i ≤ k) (hj : k < j) : ∃ rest, ((spo cs k x1 x2).drop i).take (j - i) = ((cs.take k).drop i).map vP ++ (x1, x2) :: rest := by
  have hl : ((cs.take k).map vP).length = k := by rw [List.length_map, List.length_take]; omega
  refine ⟨((cs.drop (k + 1)).map vP).take (j - k - 1), ?_⟩
  have e2 : ((cs.take k).drop i).map vP = ((cs.take k).map vP).drop i := List.map_drop
  rw [e2]
  unfold spo
  rw [List.drop_append_of_le_length (by omega), List.take_append, List.take_of_length_le (by rw [List.length_drop, hl]; omega), List.length_drop, hl, show j - i - (k - i) = (j - k - 1) + 1 by omega, List.take_succ_cons]
def SpB (m : Nat) (x1 x2 bad : V) : Prop := inB bad 0 ((m : Nat) - 1) = false ∧ (x1 = bad ∨ ∃ o : Nat, x1 = .int (o : Nat) ∧ o < m ∧ x2 = bad)
theorem spo_bad {cs : List (Nat × Nat)} {k i j m : Nat} {x1 x2 bad f b : V} (hin : ∀ c ∈ cs, c.1 < m ∧ c.2 < m) (h : k < cs.length) (sb : SpB m x1 x2 bad) (mk : MkOk (spo cs k x1 x2).length f b i j) (hi : i ≤ k) (hj : k < j) : Car m (spo cs k x1 x2) f b (.inr bad) := by
  obtain ⟨rest, e⟩ := spo_cut (x1 := x1) (x2 := x2) h hi hj
  have hin2 : ∀ c ∈ (cs.take k).drop i, c.1 < m ∧ c.2 < m := fun c hc => hin c (List.mem_of_mem_take (List.mem_of_mem_drop hc))
  obtain ⟨hb, rfl | ⟨o, rfl, ho, rfl⟩⟩ := sb
  · exact .one mk e hin2 hb
  · exact .two mk e hin2 ho hb
theorem spo_front {cs : List (Nat × Nat)} {k m : Nat} {x1 x2 : V} (hin : ∀ c ∈ cs, c.1 < m ∧ c.2 < m) (h : k < cs.length) : Car m (spo cs k x1 x2) (.int 0) (.int (k : Nat)) (.inl (cs.take k)) :=
  .ok (i := 0) (j := k) (.to (i := 0) (Nat.zero_le _) (by rw [spo_len h]; omega)) (by
    have hl : ((cs.take k).map vP).length = k := by rw [List.length_map, List.length_take]; omega
    unfold spo
    rw [List.drop_zero, Nat.sub_zero, List.take_append_of_le_length (by omega), List.take_of_length_le (by omega)]) fun c hc => hin c (List.mem_of_mem_take hc)
theorem spo_none {cs : List (Nat × Nat)} {k m : Nat} {x1 x2 : V} (h : k < cs.length) : Car m (spo cs k x1 x2) (.int (k : Nat)) (.int (k : Nat)) (.inl []) :=
  .ok (i := k) (j := k) (.to (Nat.le_refl _) (by rw [spo_len h]; omega)) (by rw [Nat.sub_self]; rfl) (fun c hc => by cases hc)
theorem spo_back {cs : List (Nat × Nat)} {k m : Nat} {x1 x2 : V} (hin : ∀ c ∈ cs, c.1 < m ∧ c.2 < m) (h : k < cs.length) : Car m (spo cs k x1 x2) (.int ((k : Nat) + 1)) .non (.inl (cs.drop (k + 1))) := by
  have e := spo_len (x1 := x1) (x2 := x2) h
  have mk : MkOk (spo cs k x1 x2).length (.int ((k + 1 : Nat) : Int)) .non (k + 1) (spo cs k x1 x2).length := .all (by omega)
  refine .ok (i := k + 1) (j := (spo cs k x1 x2).length) mk ?_ fun c hc => hin c (List.mem_of_mem_drop hc)
  have hl : ((cs.take k).map vP).length = k := by rw [List.length_map, List.length_take]; omega
  rw [e]
  unfold spo
  rw [List.drop_append, List.drop_of_length_le (by omega), hl, show k + 1 - k = 1 by omega, List.nil_append, List.drop_succ_cons, List.drop_zero, List.take_of_length_le (by rw [List.length_map, List.length_drop]; omega)]
theorem spo_tups {H : Hp} {ys : List V} {cs : List (Nat × Nat)} {k : Nat} {x1 x2 : V} {t : Addr} (tp : TupsAt H ys (rowsN cs)) (e : H t = some (.tup [x1, x2])) : TupsAt H (ys.take k ++ [.ref t] ++ ys.drop (k + 1)) (rowsP (spo cs k x1 x2)) := by
  have yl : ys.length = cs.length := by rw [rowsP_len tp, List.length_map]
  have t1 := tupsP_cut 0 k tp
  have t2 := tupsP_cut (k + 1) cs.length tp
  rw [List.drop_zero, List.drop_zero, ← List.map_take] at t1
  rw [List.take_of_length_le (by rw [List.length_drop]; omega), List.take_of_length_le (by rw [List.length_drop, List.length_map]; omega), ← List.map_drop] at t2
  have t3 : TupsAt H [.ref t] [[x1, x2]] := ⟨rfl, fun j r ej => by
    cases j with
    | zero => cases ej; exact ⟨t, rfl, e⟩
    | succ j => simp at ej⟩
  have := tups_app (tups_app t1 t3) t2
  unfold spo rowsP at *
  rw [List.map_append, List.map_cons]
  simp only [List.append_assoc] at this ⊢
  exact this
section
variable {P : Program} {w : World} {K : PySem.W.Frag} {mg : Str → Option Value} {base : Heap} {c : Nat → Addr} {R  : Addr}
theorem D_lnoplaces (T : Txt K mg c R ) : Def P w K mg base CX0 6 "_law_no_places" ["_law_box_here", "_law_cells", "_law_copies_here"] (sp_lnoplaces K) := by
  have D_take := D_take (P := P) (w := w) (base := base) T
  have D_lsame := D_lsame (P := P) (w := w) (base := base) T
  have D_ltold := D_ltold (P := P) (w := w) (base := base) T
  have D_ldone := D_ldone (P := P) (w := w) (base := base) T
  refine def_of T.d_lnoplaces sc_lnoplaces (fun vs H Q E h => ?_) (fun _ _ _ _ _ _ us hl => match us, hl with | [_, _, _], _ => rfl) (fun f cdv A outer s H vs Q E hr h => ?_)
  · obtain ⟨bx, a, l, x, y, z, xs, ys, cs, rfl, _⟩ := h
    rfl
  · obtain ⟨bx, a, l, x, y, z, xs, ys, cs, rfl, hbx, ha, hl, tp, hz, hy, idx, hin, hc0, nba, nbl, kk⟩ := h
    have nd := sc_lnoplaces.nd
    refine ⟨_, (pss_cons (ps_set (i := 3) nd rfl (Or.inl rfl) (pe_def D_take hr (pa_cons (pv 0) (pa_cons (pe_callB call_lenN rfl T.n_len boot_len (pa_cons (pv 2) pa_nil)) pa_nil))))
      (pss_cons (ps_set (i := 4) nd rfl (Or.inl rfl) (pe_lstA (pa_cons (pe_un un_neg pe_int) (pa_cons (pe_callB call_lenN rfl T.n_len boot_len (pa_cons (pv 1) pa_nil)) (pa_cons (pe_op op_add (pe_callB call_lenN rfl T.n_len boot_len (pa_cons (pv 1) pa_nil)) (pe_op op_pow pe_int pe_int)) (pa_cons pe_bl (pa_cons pe_non (pa_cons pe_str (pa_cons (pe_lstA (pa_cons pe_int pa_nil)) pa_nil)))))))))
      (pss_cons (ps_set (i := 5) nd rfl (Or.inl rfl) (pe_ix ix_list (pv 4) (pe_def D_take hr (pa_cons (pv 0) (pa_cons pe_int pa_nil))) (fun _ _ => rfl)))
      (pss_cons (ps_set (i := 6) nd rfl (Or.inl rfl) (pe_ix ix_list (pv 4) (pe_def D_take hr (pa_cons (pv 0) (pa_cons pe_int pa_nil))) (fun _ _ => rfl)))
      (pss_cons (ps_asg (pe_ix ix_list (pv 2) (pv 3) (fun _ _ => rfl)) (pg_tup rfl (pgs_cons (pg_name (i := 7) nd rfl (Or.inl rfl)) (pgs_cons (pg_name (i := 8) nd rfl (Or.inl rfl)) pgs_nil))))
      (pss_cons (ps_set (i := 9) nd rfl (Or.inl rfl) (pe_ix ix_list (pe_lstA (pa_cons (pe_tupA (pa_cons (pv 5) (pa_cons (pv 8) pa_nil))) (pa_cons (pe_tupA (pa_cons (pv 7) (pa_cons (pv 5) pa_nil))) (pa_cons (pe_tupA (pa_cons (pv 5) (pa_cons (pv 6) pa_nil))) pa_nil)))) (pe_def D_take hr (pa_cons (pv 0) (pa_cons pe_int pa_nil))) (fun _ _ => rfl)))
      (pss_cons (ps_set (i := 10) nd rfl (Or.inl rfl) (pe_op op_catA (pe_op op_catA (pe_slice sl_listA (pv 2) po_none (po_some (pv 3))) (pe_lstA (pa_cons (pv 9) pa_nil))) (pe_slice sl_listA (pv 2) (po_some (pe_op op_add (pv 3) pe_int)) po_none)))
      (pss_cons (ps_if (pt_not (pt_val (pe_def D_lsame hr (pa_cons (pe_def D_ltold hr (pa_cons (pv 1) (pa_cons (pv 10) (pa_cons pe_int (pa_cons pe_non (pa_cons pe_int pa_nil)))))) (pa_cons (pv 5) pa_nil))))) (pss_one (ps_ret pe_bl)) pss_nil)
      (pss_cons (ps_if (PW.pt (pw_or (pt_not (pt_val (pe_def D_lsame hr (pa_cons (pe_def D_ltold hr (pa_cons (pv 1) (pa_cons (pv 10) (pa_cons (pv 3) (pa_cons (pe_op op_add (pv 3) pe_int) (pa_cons pe_int pa_nil)))))) (pa_cons (pv 5) pa_nil))))) (pw_or1 (pt_cmpR (op_neI hr) (pe_def D_ltold hr (pa_cons (pv 1) (pa_cons (pv 10) (pa_cons (pv 3) (pa_cons (pv 3) (pa_cons pe_int pa_nil)))))) (pe_callTy call_list_ofA rfl T.n_list boot_list (pa_cons (pv 1) pa_nil)) (nomark _))))) (pss_one (ps_ret pe_bl)) pss_nil)
      (pss_cons (ps_if (pt_cmpR (op_neI hr) (pe_def D_ltold hr (pa_cons (pv 1) (pa_cons (pv 10) (pa_cons pe_int (pa_cons (pv 3) (pa_cons pe_int pa_nil)))))) (pe_def D_ldone hr (pa_cons (pv 1) (pa_cons (pe_slice sl_listA (pv 2) po_none (po_some (pv 3))) pa_nil))) (nomark _)) (pss_one (ps_ret pe_bl)) pss_nil)
      (pss_one (ps_ret (pe_cmpR (op_eqI hr) (pe_def D_ltold hr (pa_cons (pv 1) (pa_cons (pv 10) (pa_cons (pe_op op_add (pv 3) pe_int) (pa_cons pe_non (pa_cons pe_int pa_nil)))))) (pe_def D_ldone hr (pa_cons (pv 1) (pa_cons (pe_slice sl_listA (pv 2) (po_some (pe_op op_add (pv 3) pe_int)) po_none) pa_nil))) (nomark _)))))))))))))), ?_⟩
    clear nd D_take D_lsame D_ltold D_ldone
    rw [show start ["_law_box_here", "_law_cells", "_law_copies_here", "_law_k", "_law_some", "_law_bad", "_law_worse", "_law_one", "_law_other", "_law_row", "_law_spoilt"] [.ref bx, .ref a, .ref l] = [some (.ref bx), some (.ref a), some (.ref l), none, none, none, none, none, none, none, none] from rfl]
    try dsimp only [cx_K, cx_K2]
    have F : SH H [bx] H [(bx, .lst [.int x, .int y, .int z])] [] := SH.nil.addM List.mem_cons_self hbx rfl (by simp)
    have o_ha := Old.mk (M := [bx]) ha (nm1 (Ne.symm nba))
    have o_hl := Old.mk (M := [bx]) hl (nm1 (Ne.symm nbl))
    have ix : IdL xs := ⟨idx⟩
    have yl : ys.length = cs.length := by rw [rowsP_len tp, List.length_map]
    replace F := F.addP tp
    repeat k_meth
    rename_i k1 _ _ _ k1lo k1hi _ _ zz _
    refine w_ixM SqA.e lo_ hi_ fun bad hbad => ?_
    repeat k_meth
    refine w_ixM SqA.e lo_ hi_ fun wo hwo => ?_
    obtain ⟨k, rfl⟩ : ∃ k : Nat, k1 = (k : Nat) := ⟨k1.toNat, by omega⟩
    have hkc : k < cs.length := by omega
    obtain ⟨c, q1, e1, eq1, e2⟩ := rowsN_at (H := H_) (cs := cs) TpA.e (i := k) (List.getElem?_eq_getElem (show k < ys.length by omega))
    have hc := hin c (List.mem_of_getElem? e1)
    have a1 : AtI ys ((k : Nat) : Int) (.ref q1) := ⟨atI_nat (by rw [List.getElem?_eq_getElem (show k < ys.length by omega), eq1])⟩
    replace F := F.addT e2
    repeat k_meth
    refine w_ixM SqA.e lo_ hi_ fun rw_ hrw => ?_
    have hzz : H_ zz = some (.lst [.int 0]) := hatC
    have odd : ∀ v ∈ [V.int (-1), V.int (xs.length : Nat), V.int ((xs.length : Nat) + 10 ^ Int.toNat 20), V.bl true, V.non, V.str "0", V.ref zz], (∃ t, TyOf K H_ v (.type t)) ∧ idV v = true ∧ inB v 0 ((xs.length : Nat) - 1) = false := by
      intro v hv
      have e20 : (10 : Int) ^ Int.toNat 20 = 100000000000000000000 := by decide
      simp only [List.mem_cons, List.not_mem_nil, or_false] at hv
      rcases hv with rfl | rfl | rfl | rfl | rfl | rfl | rfl
      · exact ⟨⟨_, .int _⟩, rfl, rfl⟩
      · exact ⟨⟨_, .int _⟩, rfl, inB_far (by omega)⟩
      · exact ⟨⟨_, .int _⟩, rfl, inB_far (by omega)⟩
      · exact ⟨⟨_, .bl true⟩, rfl, rfl⟩
      · exact ⟨⟨_, .non⟩, rfl, rfl⟩
      · exact ⟨⟨_, .str _⟩, rfl, rfl⟩
      · exact ⟨⟨_, .lst hzz⟩, rfl, rfl⟩
    obtain ⟨ty1, i1, b1⟩ := odd bad hbad
    obtain ⟨ty2, i2, b2⟩ := odd wo hwo
    obtain ⟨t, x1, x2, rfl, et, sb, tx1, tx2⟩ : ∃ t x1 x2, rw_ = .ref t ∧ H_ t = some (.tup [x1, x2]) ∧ SpB xs.length x1 x2 bad ∧ Tyd K H_ x1 ∧ Tyd K H_ x2 := by
      simp only [List.mem_cons, List.not_mem_nil, or_false] at hrw
      rcases hrw with rfl | rfl | rfl
      · exact ⟨_, _, _, rfl, hatC, ⟨b1, .inl rfl⟩, ty1, ⟨_, .int _⟩⟩
      · exact ⟨_, _, _, rfl, hatC, ⟨b1, .inr ⟨c.1, rfl, hc.1, rfl⟩⟩, ⟨_, .int _⟩, ty1⟩
      · exact ⟨_, _, _, rfl, hatC, ⟨b1, .inl rfl⟩, ty1, ty2⟩
    obtain ⟨t1, y1⟩ := ty1
    have kp := F.kpo
    have hbx2 : H_ bx = some (.lst [.int x_, .int y_, .int z_]) := hatC
    have ha2 : H_ a = some (.lst xs) := hatC
    have hl2 : H_ l = some (.lst ys) := hatC
    have tp2 : TupsAt H_ ys (rowsN cs) := TpA.e
    have kq : ∀ H', Same H_ H' → Q (.bl true) H' := fun H' s => kk _ _ _ _ (Kp_sm kp s) (s _ _ hbx2)
    clear F o_ha o_hl hbad hwo hrw odd kk kp
    have F : SH H_ [] H_ [] [.tup t [x1, x2], .tps ys (rowsN cs)] := (SH.nil.addP tp2).addT et
    have o_a := Old.mk (M := []) ha2 nm0
    have o_l := Old.mk (M := []) hl2 nm0
    have o_1 : OldT K H_ [] bad t1 := ⟨y1, fun _ _ z => by cases z⟩
    have v1 : IdV bad := ⟨i1⟩
    have sl := spo_len (x1 := x1) (x2 := x2) hkc
    have o_p : OldTP K H_ (spo cs k x1 x2) := ⟨fun p hp => by
      unfold spo at hp
      rcases List.mem_append.mp hp with h | h
      · obtain ⟨c, _, rfl⟩ := List.mem_map.mp h; exact ⟨⟨_, .int _⟩, ⟨_, .int _⟩⟩
      · rcases List.mem_cons.mp h with rfl | h
        · exact ⟨tx1, tx2⟩
        · obtain ⟨c, _, rfl⟩ := List.mem_map.mp h; exact ⟨⟨_, .int _⟩, ⟨_, .int _⟩⟩⟩
    have c1 : ToB xs (spo cs k x1 x2) (.int 0) .non bad := ⟨spo_bad hin hkc sb (.all (i := 0) (Nat.zero_le _)) (Nat.zero_le _) (by omega)⟩
    have c2 : ToB xs (spo cs k x1 x2) (.int (k : Nat)) (.int ((k : Nat) + 1)) bad := ⟨spo_bad hin hkc sb (.to (i := k) (j := k + 1) (by omega) (by omega)) (Nat.le_refl _) (by omega)⟩
    have p1 : ToO xs (spo cs k x1 x2) (.int (k : Nat)) (.int (k : Nat)) xs := ⟨_, spo_none hkc, rfl⟩
    have p2 : ToO xs (spo cs k x1 x2) (.int 0) (.int (k : Nat)) (doN xs (cs.take k)) := ⟨_, spo_front hin hkc, rfl⟩
    have p3 : ToO xs (spo cs k x1 x2) (.int ((k : Nat) + 1)) .non (doN xs (cs.drop (k + 1))) := ⟨_, spo_back hin hkc, rfl⟩
    have d1 : DoO xs (cs.take k) (doN xs (cs.take k)) := ⟨fun c hc => hin c (List.mem_of_mem_take hc), rfl⟩
    have d2 : DoO xs (cs.drop (k + 1)) (doN xs (cs.drop (k + 1))) := ⟨fun c hc => hin c (List.mem_of_mem_drop hc), rfl⟩
    have ek : ((k : Nat) : Int) + 1 = ((k + 1 : Nat) : Int) := by omega
    have q2 : CutA ys none (some ((k : Nat) : Int)) (ys.take k) := ⟨cut_takeN⟩
    have q3 : CutA ys (some (((k : Nat) : Int) + 1)) none (ys.drop (k + 1)) := ⟨by rw [ek]; exact cut_from⟩
    have tk1 : TupsAt H_ (ys.take k) (rowsN (cs.take k)) := by
      have := tupsP_cut 0 k tp2
      rw [List.drop_zero, List.drop_zero, ← List.map_take] at this
      exact this
    have tk2 : TupsAt H_ (ys.drop (k + 1)) (rowsN (cs.drop (k + 1))) := by
      have := tupsP_cut (k + 1) cs.length tp2
      rw [List.take_of_length_le (by rw [List.length_drop]; omega), List.take_of_length_le (by rw [List.length_drop, List.length_map]; omega), ← List.map_drop] at this
      exact this
    have lz1 : (ys.take k).length = k := by rw [List.length_take]; omega
    have lz2 : (ys.drop (k + 1)).length = ys.length - (k + 1) := List.length_drop ..
    have hlb : (90001 : Nat) ≤ sizeLine := by decide
    have z1 : (ys.take k).length + [V.ref t].length ≤ sizeLine := Nat.le_trans (by rw [lz1, List.length_singleton]; omega) hlb
    have z2 : (ys.take k ++ [V.ref t]).length + (ys.drop (k + 1)).length ≤ sizeLine := Nat.le_trans (by rw [List.length_append, lz1, lz2, List.length_singleton]; omega) hlb
    have z3 : (ys.take k ++ [V.ref t] ++ ys.drop (k + 1)).length ≤ 100000 := by rw [List.length_append, List.length_append, lz1, lz2, List.length_singleton]; omega
    replace F := ((F.addP tk1).addP tk2).addP (spo_tups (k := k) tp2 et)
    repeat k_meth
    exact kq _ F.sm
end
def sp_lmoved (K : PySem.W.Frag) : Sp := fun vs H Q _ => ∃ (a sl l : Addr) (xs zs ys : List V) (ss : List Rw), vs = [.ref a, .ref sl, .ref l] ∧ H a = some (.lst xs) ∧ H sl = some (.lst zs) ∧ TupsAt H zs (rowsV ss) ∧ H l = some (.lst ys) ∧ TupsAt H ys (rowsN (cpsOf ss)) ∧ xs.length ≤ 1000 ∧ ys.length ≤ 100000 ∧ xs.all idV = true ∧ (∀ c ∈ cpsOf ss, c.1 < xs.length ∧ c.2 < xs.length) ∧ (∀ s ∈ ss, s.st + s.sz ≤ xs.length ∧ s.pn + s.sz ≤ xs.length ∧ ((doN xs (cpsOf ss)).drop s.pn).take s.sz = (xs.drop s.st).take s.sz) ∧ ∀ H', Same H H' → Q (.bl true) H'
theorem idl_sub {xs ys : List V} (h : xs.all idV = true) (s : ∀ v ∈ ys, v ∈ xs) : IdL ys := ⟨by
  rw [List.all_eq_true] at h ⊢
  exact fun v hv => h v (s v hv)⟩
section
variable {P : Program} {w : World} {K : PySem.W.Frag} {mg : Str → Option Value} {base : Heap} {c : Nat → Addr} {R  : Addr}
theorem D_lmoved (T : Txt K mg c R ) : Def P w K mg base CX0 6 "_law_moved" ["_law_cells", "_law_steps_here", "_law_copies_here"] (sp_lmoved K) := by
  have D_ltold := D_ltold (P := P) (w := w) (base := base) T
  refine def_of T.d_lmoved sc_lmoved (fun vs H Q E h => ?_) (fun _ _ _ _ _ _ us hl => match us, hl with | [_, _, _], _ => rfl) (fun f cdv A outer s H vs Q E hr h => ?_)
  · obtain ⟨a, sl, l, xs, zs, ys, ss, rfl, _⟩ := h
    rfl
  · obtain ⟨a, sl, l, xs, zs, ys, ss, rfl, ha, hsl, tz, hl, tp, hz, hy, idx, hin, hcl, kk⟩ := h
    have nd := sc_lmoved.nd
    refine ⟨_, (pss_cons (ps_set (i := 3) nd rfl (Or.inl rfl) (pe_def D_ltold hr (pa_cons (pv 0) (pa_cons (pv 2) (pa_cons pe_int (pa_cons pe_non (pa_cons pe_int pa_nil)))))))
      (pss_cons (ps_for PassesOwn.never rfl (pi_list (pv 1)) (pg_tup rfl (pgs_cons (pg_name (i := 4) nd rfl (Or.inl rfl)) (pgs_cons (pg_name (i := 5) nd rfl (Or.inl rfl)) (pgs_cons (pg_name (i := 6) nd rfl (Or.inl rfl)) (pgs_cons (pg_name (i := 7) nd rfl (Or.inl rfl)) pgs_nil))))) (pss_one (ps_if (pt_cmpR (op_neI hr) (pe_slice sl_listA (pv 3) (po_some (pv 7)) (po_some (pe_op op_add (pv 7) (pv 6)))) (pe_slice sl_listA (pe_callTy call_list_ofA rfl T.n_list boot_list (pa_cons (pv 0) pa_nil)) (po_some (pv 5)) (po_some (pe_op op_add (pv 5) (pv 6)))) (nomark _)) (pss_one (ps_ret pe_bl)) pss_nil)))
      (pss_one (ps_ret pe_bl)))), ?_⟩
    clear nd D_ltold
    rw [show start ["_law_cells", "_law_steps_here", "_law_copies_here", "_law_found", "_law_name", "_law_start", "_law_size", "_law_to"] [.ref a, .ref sl, .ref l] = [some (.ref a), some (.ref sl), some (.ref l), none, none, none, none, none] from rfl]
    try dsimp only [cx_K, cx_K2]
    have o_ha := Old.mk (M := []) ha nm0
    have o_hsl := Old.mk (M := []) hsl nm0
    have o_hl := Old.mk (M := []) hl nm0
    have F : SH H [] H [] [] := SH.nil
    have ix : IdL xs := ⟨idx⟩
    replace F := (F.addP tz).addP tp
    have o1 : ToO xs ((cpsOf ss).map vP) (.int 0) .non (doN xs (cpsOf ss)) := ⟨cpsOf ss, to_all (m := 0) hin rfl (Nat.zero_le _), rfl⟩
    repeat k_meth
    refine forL_by (xs := zs) (fun i σ' H' => ∃ (o4 o5 o6 o7 : Option V), σ' = [some (.ref a), some (.ref sl), some (.ref l), some (.ref p_), o4, o5, o6, o7] ∧ SH H [] H' [(p_, .lst (doN xs (cpsOf ss)))] [.tps zs (rowsV ss)]) ⟨_, _, _, _, rfl, F.sub SbC.s (by simp)⟩ ?_ ?_ ?_
    · clear F
      rintro i σ' H' _ ⟨_, _, _, _, rfl, F⟩
      exact SqA.e
    · clear F
      rintro i v σ' H' hv ⟨_, _, _, _, rfl, F⟩
      obtain ⟨s1, q1, e1, rfl, e2⟩ := rowsV_at (H := H') (rs := ss) TpA.e hv
      obtain ⟨h1, h2, h3⟩ := hcl s1 (List.mem_of_getElem? e1)
      have hl3 : (doN xs (cpsOf ss)).length = xs.length := doN_len
      have q2 : CutA (doN xs (cpsOf ss)) (some ((s1.pn : Nat) : Int)) (some (((s1.pn : Nat) : Int) + ((s1.sz : Nat) : Int))) ((xs.drop s1.st).take s1.sz) := ⟨by rw [← Int.natCast_add, cut_mid (by omega) (by omega), Nat.add_sub_cancel_left, h3]⟩
      have q3 : CutA xs (some ((s1.st : Nat) : Int)) (some (((s1.st : Nat) : Int) + ((s1.sz : Nat) : Int))) ((xs.drop s1.st).take s1.sz) := ⟨by rw [← Int.natCast_add, cut_mid (by omega) (by omega), Nat.add_sub_cancel_left]⟩
      have iz : IdL ((xs.drop s1.st).take s1.sz) := idl_sub idx fun v hv => List.mem_of_mem_drop (List.mem_of_mem_take hv)
      replace F := F.addT e2
      repeat k_meth
      exact ⟨_, _, _, _, rfl, F.sub SbC.s (by simp)⟩
    · clear F
      rintro σ' H' ⟨_, _, _, _, rfl, F⟩
      repeat k_meth
      exact kk _ F.sm
end
def sp_law (K : PySem.W.Frag) : Sp := fun vs H Q _ => ∃ (a : Addr) (ns : List Int), vs = [.ref a] ∧ SqL K H a (ns.map V.int) ∧ ns.length ≤ 63 ∧ ∀ H', Q (.bl true) H'
theorem comp_R {σ : L2.St} {H : Hp} {te : TE} {Q : VK} {fr : List Nat} {fvs : L2.St} {n : Nat} (Iv : Addr → Nat → List V → Hp → Prop) (hz : n ≤ 1000000) (hf : (fr.map fun i => (σ[i]?).getD none) = fvs)
    (h0 : ∀ acc H', New H H' acc (.lst []) → Iv acc 0 [] H') (ha : ∀ acc i ys H', Iv acc i ys H' → H' acc = some (.lst ys) ∧ ys.length = i)
    (turn : ∀ acc i ys H' (R : VK), i < n → Iv acc i ys H' → (∀ y H2, H2 acc = some (.lst ys) → (∀ H3, L2.Off acc H2 H3 → H3 acc = some (.lst (ys ++ [y])) → Iv acc (i + 1) (ys ++ [y]) H3) → R y H2) → te (some (.int i) :: fvs) H' R)
    (k : ∀ acc ys H', Iv acc n ys H' → Q (.ref acc) H') : CompAll (Itr 0 n) 1 fr (gName 0) tTrue te σ H Q := by
  have := go_compR (tr := fun _ H R => R [.int (n : Int)] H) (σ := σ) (H := H) (te := te) (Q := Q) (fr := fr) (fvs := fvs) (n := n) Iv (fun R h => h) hz hf h0 ha turn k
  obtain ⟨j, e, _, _, q⟩ := this
  cases e
  rw [Int.toNat_natCast] at q
  exact q
section
variable {P : Program} {w : World} {K : PySem.W.Frag} {mg : Str → Option Value} {base : Heap} {c : Nat → Addr} {R  : Addr}
theorem ok_law (T : Txt K mg c R ) {f : Addr} {fd : FuncData} (F : Fun K "law" "law" s_law f fd) : FnOk P w K mg base CX0 7 f fd ["_law_script"] (sp_law K) := by
  have D_box := D_box (P := P) (w := w) (base := base) T
  have D_many := D_many (P := P) (w := w) (base := base) T
  have D_lsteps := D_lsteps (P := P) (w := w) (base := base) T
  have D_lcopies := D_lcopies (P := P) (w := w) (base := base) T
  have D_lsame := D_lsame (P := P) (w := w) (base := base) T
  have D_cell_at := D_cell_at (P := P) (w := w) (base := base) T
  have D_rows := D_rows (P := P) (w := w) (base := base) T
  have D_lmoved := D_lmoved (P := P) (w := w) (base := base) T
  have D_take := D_take (P := P) (w := w) (base := base) T
  have D_ltold := D_ltold (P := P) (w := w) (base := base) T
  have D_lmarks := D_lmarks (P := P) (w := w) (base := base) T
  have D_lnomarks := D_lnomarks (P := P) (w := w) (base := base) T
  have D_lnoplaces := D_lnoplaces (P := P) (w := w) (base := base) T
  refine fnok_of F sc_law (fun vs H Q E h => ?_) (fun cdv A outer s H vs Q E hr h => ?_)
  · obtain ⟨a, ns, rfl, _⟩ := h
    rfl
  · obtain ⟨a, ns, rfl, hS, hl, k⟩ := h
    have nd := sc_law.nd
    refine ⟨_, (pss_cons (ps_for PassesOwn.never rfl (pi_range1 rfl T.n_range (pa_cons (pe_callB (call_maxN rfl) rfl T.n_max boot_max (pa_cons pe_int (pa_cons (pe_callB (call_minN rfl) rfl T.n_min boot_min (pa_cons pe_int (pa_cons (pe_callB call_lenN rfl T.n_len boot_len (pa_cons (pv 0) pa_nil)) pa_nil))) pa_nil))) pa_nil)) (pg_name (i := 1) nd rfl (Or.inl rfl)) (pss_cons (ps_set (i := 2) nd rfl (Or.inr rfl) (pe_def D_box hr (pa_cons (pe_def D_cell_at hr (pa_cons (pv 0) (pa_cons (pv 1) pa_nil))) pa_nil)))
        (pss_cons (ps_set (i := 3) nd rfl (Or.inr rfl) (pe_def D_many hr (pa_cons (pv 2) pa_nil)))
        (pss_cons (ps_asg (pe_def D_lsteps hr (pa_cons (pv 2) (pa_cons (pv 3) (pa_cons (pe_def D_rows hr (pa_cons (pv 2) (pa_cons (pv 3) pa_nil))) pa_nil)))) (pg_tup rfl (pgs_cons (pg_name (i := 4) nd rfl (Or.inl rfl)) (pgs_cons (pg_name (i := 5) nd rfl (Or.inl rfl)) pgs_nil))))
        (pss_cons (ps_setc (i := 6) nd rfl (Or.inl rfl) (N := ["_law_at", "_law_box_here"]) (nt := 1) (fr := [2]) (pi_range1 rfl T.n_range (pa_cons (pv 3) pa_nil)) (fun _ _ _ _ => (pg_name (i := 0) (show (["_law_at", "_law_box_here"] : List Str).Nodup from by decide +kernel) rfl (Or.inl rfl))) (fun _ _ _ _ => pif_nil) (fun _ _ _ _ => (pe_ix (ix_listK (K := K) rfl) (pe_lstA (pa_cons (pv 0) (pa_cons (pe_op op_sub pe_int (pv 0)) (pa_cons (pe_callTy call_strI rfl T.n_str boot_str (pa_cons (pv 0) pa_nil)) (pa_cons pe_non (pa_cons (pe_lstA (pa_cons (pv 0) pa_nil)) pa_nil)))))) (pe_def D_take hr (pa_cons (pv 1) (pa_cons pe_int pa_nil))) (fun _ _ => rfl))))
        (pss_cons (ps_set (i := 7) nd rfl (Or.inl rfl) (pe_def D_lcopies hr (pa_cons (pv 4) pa_nil)))
        (pss_cons (ps_if (pt_not (pt_val (pe_def D_lmoved hr (pa_cons (pv 6) (pa_cons (pv 4) (pa_cons (pv 7) pa_nil)))))) (pss_one (ps_ret pe_bl)) pss_nil)
        (pss_cons (ps_if (pt_cmpR op_eq (pe_def D_take hr (pa_cons (pv 2) (pa_cons pe_int pa_nil))) pe_int (nomark _)) (pss_one (ps_setc (i := 7) nd rfl (Or.inl rfl) (N := ["_law_lap", "_law_box_here", "_law_many_here"]) (nt := 1) (fr := [2, 3]) (pi_range1 rfl T.n_range (pa_cons (pe_def D_take hr (pa_cons (pv 2) (pa_cons pe_int pa_nil))) pa_nil)) (fun _ _ _ _ => (pg_name (i := 0) (show (["_law_lap", "_law_box_here", "_law_many_here"] : List Str).Nodup from by decide +kernel) rfl (Or.inl rfl))) (fun _ _ _ _ => pif_nil) (fun _ _ _ _ => (pe_tupA (pa_cons (pe_def D_take hr (pa_cons (pv 1) (pa_cons (pv 2) pa_nil))) (pa_cons (pe_def D_take hr (pa_cons (pv 1) (pa_cons (pv 2) pa_nil))) pa_nil)))))) pss_nil)
        (pss_cons (ps_if (PW.pt (pw_or (pt_not (pt_val (pe_def D_lmarks hr (pa_cons (pv 2) (pa_cons (pv 6) (pa_cons (pv 7) pa_nil)))))) (pw_or1 (pt_not (pt_val (pe_def D_lnomarks hr (pa_cons (pv 2) (pa_cons (pv 6) (pa_cons (pv 7) pa_nil))))))))) (pss_one (ps_ret pe_bl)) pss_nil)
        (pss_one (ps_if (PW.pt (pw_and (pt_cmpR (op_neE hr) (pv 7) (pe_lstA pa_nil) (nomark _)) (pw_and1 (pt_not (pt_val (pe_def D_lnoplaces hr (pa_cons (pv 2) (pa_cons (pv 6) (pa_cons (pv 7) pa_nil))))))))) (pss_one (ps_ret pe_bl)) pss_nil)))))))))))
      (pss_one (ps_ret (pe_and (pe_cmpR (op_eqE hr) (pe_def D_ltold hr (pa_cons (pe_lstA pa_nil) (pa_cons (pe_lstA pa_nil) (pa_cons pe_int (pa_cons pe_non (pa_cons pe_int pa_nil)))))) (pe_lstA pa_nil) (nomark _)) (pe_one (pe_def D_lsame hr (pa_cons (pe_def D_ltold hr (pa_cons (pe_lstA pa_nil) (pa_cons (pe_lstA (pa_cons (pe_tupA (pa_cons pe_int (pa_cons pe_int pa_nil))) pa_nil)) (pa_cons pe_int (pa_cons pe_non (pa_cons pe_int pa_nil)))))) (pa_cons pe_int pa_nil)))))))), ?_⟩
    clear nd D_box D_many D_lsteps D_lcopies D_lsame D_cell_at D_rows D_lmoved D_take D_ltold D_lmarks D_lnomarks D_lnoplaces
    rw [show start ["_law_script", "_law_k", "_law_box_here", "_law_many_here", "_law_steps_here", "_law_rows_here", "_law_cells", "_law_copies_here"] [.ref a] = [some (.ref a), none, none, none, none, none, none, none] from rfl]
    try dsimp only [cx_K, cx_K2]
    have o_hS := OldQ.mk (M := []) hS nm0
    have F : SH H [] H [] [] := SH.nil
    repeat k_meth
    refine forR0_by (fun i σ' H' => ∃ (o1 o2 o3 o4 o5 o6 o7 : Option V), σ' = [some (.ref a), o1, o2, o3, o4, o5, o6, o7] ∧ SH H [] H' [] []) ⟨_, _, _, _, _, _, _, rfl, F⟩ ?_ ?_
    · clear F
      rintro i σ' H' hi ⟨_, _, _, _, _, _, _, rfl, F⟩
      repeat k_meth
      intro n h16 h240
      repeat k_meth
      intro rs ly as
      repeat k_meth
      rename_i bx _ _ _ _ _
      refine ⟨bx, p_, _, _, _, n, ys_, rs, rfl, hatC, h240, hatC, TpA.e, ly, as, (SH.neC (F := F)), fun x' y' z' ks ss qs t sl rl zs H2 sld sl40 G => ?_⟩
      have F2 := SH.over (A := [(bx, .lst [.int x_, .int y_, .int c_])]) (R := []) (show SH H [] H_ ([(bx, .lst [.int x_, .int y_, .int c_])] ++ []) [] from F.sub (L' := [(bx, .lst [.int x_, .int y_, .int c_])]) SbC.s (by simp)) G rfl
      clear F G
      have F : SH H [] H2 [(sl, .lst zs), (bx, .lst [.int x', .int y', .int z'])] [.tup t [.ref sl, .ref rl], .tps zs (rowsV ss)] := F2
      clear F2
      repeat k_meth
      refine ⟨_, rfl, by omega, by omega, ?_⟩
      rw [Int.toNat_natCast]
      refine comp_R (fvs := [some (.ref bx)]) (fun acc i ys H' => ys.length = i ∧ ys.all idV = true ∧ ∃ (x y z : Int), SH H [] H' [(acc, .lst ys), (bx, .lst [.int x, .int y, .int z]), (sl, .lst zs)] [.tps zs (rowsV ss)]) (by omega) rfl (fun acc H1 nw => ⟨rfl, rfl, x', y', z', (F.newL nw).sub SbC.s (by simp)⟩) (fun acc i ys H1 ⟨e1, _, x, y, z, F⟩ => ⟨F.raw List.mem_cons_self, e1⟩) (fun acc i ys H1 R hi iv kk => ?_) (fun cl cells H1 iv => ?_)
      · clear F
        obtain ⟨yl, yi, x, y, z, F⟩ := iv
        repeat k_meth
        refine w_ixM SqA.e lo_ hi_ fun v hv => ?_
        have iv : idV v = true := by
          simp only [List.mem_cons, List.not_mem_nil, or_false] at hv
          rcases hv with rfl | rfl | rfl | rfl | rfl <;> rfl
        clear hv
        refine kk _ _ hatC ?_
        repeat k_meth
        refine ⟨by rw [List.length_append, yl]; rfl, by rw [List.all_append, yi, List.all_cons, iv]; rfl, x_, y_, z_, F.sub SbC.s (by simp)⟩
      · clear F
        obtain ⟨cln, idx, x, y, z, F⟩ := iv
        have hg : ∀ r ∈ rs, r.st + r.sz ≤ n := fun r hr => (ly.good r hr).le
        have hcl : ∀ s ∈ ss, s.st + s.sz ≤ cells.length ∧ s.pn + s.sz ≤ cells.length ∧ ((doN cells (cpsOf ss)).drop s.pn).take s.sz = (cells.drop s.st).take s.sz := fun s hs => by
          have := slid_cells as hg sld cln hs
          rw [cln]
          exact this
        have hinS : ∀ c ∈ cpsOf ss, c.1 < n ∧ c.2 < n := (slid_inv as hg sld).inc
        repeat k_meth
        refine ⟨sl, zs, ss, n, rfl, hatC, TpA.e, sl40, h240, fun s hs => by have := hcl s hs; omega, fun cp zs2 H3 nw tp => ?_⟩
        replace F := F.newR nw tp
        have zl2 : zs2.length = (cpsOf ss).length := by rw [rowsP_len tp, List.length_map]
        have zl3 := cpsOf_len (ss := ss) fun s hs => by have := hcl s hs; omega
        repeat k_meth
        refine ⟨cl, sl, cp, cells, zs, zs2, ss, rfl, hatC, hatC, TpA.e, hatC, TpA.e, by omega, by omega, idx, by rw [cln]; exact hinS, hcl, fun H4 sm => ?_⟩
        replace F := F.same sm
        repeat k_meth
        refine i_dec (fun h => ?_) (fun h => ?_)
        · repeat k_meth
          refine ⟨_, rfl, by omega, by omega, ?_⟩
          refine comp_R (fvs := [some (.ref bx), some (.int (n : Nat))]) (fun acc i ys H' => ∃ (cs : List (Nat × Nat)) (x y z : Int), cs.length = i ∧ ys.length = i ∧ (∀ c ∈ cs, c.1 < n ∧ c.2 < n) ∧ SH H [] H' [(acc, .lst ys), (bx, .lst [.int x, .int y, .int z]), (cl, .lst cells)] [.tps ys (rowsN cs)]) (by omega) rfl (fun acc H1 nw => ⟨[], x_, y_, z_, rfl, rfl, (fun c hc => by cases hc), ((F.newL nw).addP (show TupsAt _ [] (rowsN []) from TupsAt.nil)).sub SbC.s (by simp)⟩) (fun acc i ys H1 ⟨cs, x, y, z, e1, e2, _, F⟩ => ⟨F.raw List.mem_cons_self, e2⟩) (fun acc i ys H1 R hi iv kk => ?_) (fun cp zs2 H1 iv => ?_)
          · clear F
            obtain ⟨cs, x, y, z, e1, e2, hin, F⟩ := iv
            repeat k_meth
            rename_i r1 _ _ _ lo1 hi1 _ _
            refine kk _ _ hatC ?_
            repeat k_meth
            have tt : TupsAt H_ (ys ++ [.ref p_]) (rowsN (cs ++ [(r1.toNat, r_.toNat)])) := by
              rw [rowsN_app]
              refine TupsAt.snoc TpA.e ?_
              have ht : H_ p_ = some (.tup [.int r1, .int r_]) := hatC
              show H_ p_ = some (.tup [.int ((r1.toNat : Nat) : Int), .int ((r_.toNat : Nat) : Int)])
              rw [show ((r1.toNat : Nat) : Int) = r1 by omega, show ((r_.toNat : Nat) : Int) = r_ by omega]
              exact ht
            refine ⟨cs ++ [(r1.toNat, r_.toNat)], x_, y_, z_, by rw [List.length_append, e1]; rfl, by rw [List.length_append, e2]; rfl, fun c hc => ?_, (F.addP tt).sub SbC.s (by simp)⟩
            rcases List.mem_append.mp hc with hc | hc
            · exact hin c hc
            · rw [List.mem_singleton.mp hc]
              exact ⟨by show r1.toNat < n; omega, by show r_.toNat < n; omega⟩
          · clear F
            obtain ⟨cs, x, y, z, e1, e2, hin, F⟩ := iv
            repeat k_meth
            refine ⟨bx, cl, cp, _, _, _, cells, zs2, cs, rfl, hatC, hatC, hatC, TpA.e, by omega, by omega, idx, by rw [cln]; exact hin, (SH.neC (F := F)), (SH.neC (F := F)), fun x' y' z' H3 kp e3 => ?_⟩
            replace F := F.kpL kp e3 LkU.u
            repeat k_meth
            refine ⟨bx, cl, cp, _, _, _, cells, zs2, cs, rfl, hatC, hatC, hatC, TpA.e, by omega, by omega, idx, (SH.neC (F := F)), (SH.neC (F := F)), fun x' y' z' H4 kp e4 => ?_⟩
            replace F := F.kpL kp e4 LkU.u
            repeat k_meth
            by_cases hz0 : zs2 = []
            · rw [decide_eq_true hz0]
              repeat k_meth
              exact ⟨_, _, _, _, _, _, _, rfl, F.sub SbC.s (by simp)⟩
            · rw [decide_eq_false hz0]
              repeat k_meth
              refine ⟨bx, cl, cp, _, _, _, cells, zs2, cs, rfl, hatC, hatC, hatC, TpA.e, by omega, by omega, idx, by rw [cln]; exact hin, by have := List.length_pos_iff.mpr hz0; omega, (SH.neC (F := F)), (SH.neC (F := F)), fun x' y' z' H5 kp e5 => ?_⟩
              replace F := F.kpL kp e5 LkU.u
              repeat k_meth
              exact ⟨_, _, _, _, _, _, _, rfl, F.sub SbC.s (by simp)⟩
        · obtain ⟨cs, ecs⟩ : ∃ cs, cs = cpsOf ss := ⟨_, rfl⟩
          have hin := hinS
          rw [← ecs] at zl2 zl3 hin F
          repeat k_meth
          refine ⟨bx, cl, cp, _, _, _, cells, zs2, cs, rfl, hatC, hatC, hatC, TpA.e, by omega, by omega, idx, by rw [cln]; exact hin, (SH.neC (F := F)), (SH.neC (F := F)), fun x' y' z' H3 kp e3 => ?_⟩
          replace F := F.kpL kp e3 LkU.u
          repeat k_meth
          refine ⟨bx, cl, cp, _, _, _, cells, zs2, cs, rfl, hatC, hatC, hatC, TpA.e, by omega, by omega, idx, (SH.neC (F := F)), (SH.neC (F := F)), fun x' y' z' H4 kp e4 => ?_⟩
          replace F := F.kpL kp e4 LkU.u
          repeat k_meth
          by_cases hz0 : zs2 = []
          · rw [decide_eq_true hz0]
            repeat k_meth
            exact ⟨_, _, _, _, _, _, _, rfl, F.sub SbC.s (by simp)⟩
          · rw [decide_eq_false hz0]
            repeat k_meth
            refine ⟨bx, cl, cp, _, _, _, cells, zs2, cs, rfl, hatC, hatC, hatC, TpA.e, by omega, by omega, idx, by rw [cln]; exact hin, by have := List.length_pos_iff.mpr hz0; omega, (SH.neC (F := F)), (SH.neC (F := F)), fun x' y' z' H5 kp e5 => ?_⟩
            replace F := F.kpL kp e5 LkU.u
            repeat k_meth
            exact ⟨_, _, _, _, _, _, _, rfl, F.sub SbC.s (by simp)⟩
    · clear F
      rintro σ' H' ⟨_, _, _, _, _, _, _, rfl, F⟩
      replace F := F.addP (show TupsAt H' [] (rowsN []) from TupsAt.nil)
      have i0 : IdL ([] : List V) := ⟨rfl⟩
      have o0 : ToO [] (([] : List (Nat × Nat)).map vP) (.int 0) .non [] := ⟨[], to_all (m := 0) (n := 0) (fun c hc => by cases hc) rfl (Nat.le_refl _), rfl⟩
      repeat k_meth
      rw [decide_eq_true rfl]
      repeat k_meth
      rename_i la _ tq
      have ht : H_ tq = some (.tup [V.int 0, V.int 0]) := hatC
      have t1 : TupsAt H_ [.ref tq] (rowsN [(0, 0)]) := ⟨rfl, fun j r ej => by
        cases j with
        | zero => cases ej; exact ⟨tq, rfl, ht⟩
        | succ j => simp [rowsP] at ej⟩
      replace F := F.addP t1
      have o1 : ToB [] ([((0 : Nat), (0 : Nat))].map vP) (.int 0) .non (V.int 0) := ⟨.one (i := 0) (j := 1) (cs := []) (y := V.int 0) (rest := []) (.all (i := 0) (Nat.zero_le _)) rfl (fun c hc => by cases hc) rfl⟩
      have v0 : IdV (V.int 0) := ⟨rfl⟩
      repeat k_meth
      exact k _
end
end K63
namespace K63
open PySem L2 PyProof.Rows
abbrev LkH (K : PySem.W.Frag) (g : Addr) (m q : Str) (st : Stmt) (xd xn : Option Addr) (xs : Array (Option Value)) (xo xk xe xp xc xt : Value) : Prop := K.lookup g = some ⟨xo, xd, .func (PySem.W.fnOf m q (defArgs st) (defBody st) (defScope st) .none xk xe xp xn xc xt), xs⟩ ∧ PySem.W.codeIn K xc q = true ∧ PySem.W.keepIn K (.ref g) = true
abbrev DfH (K : PySem.W.Frag) (m : Str) (st : Stmt) : Prop := ∃ g xd xn xs xo xk xe xp xc xt, PySem.W.nsIn K mainGlobals m = some (some (.ref g)) ∧ LkH K g m m st xd xn xs xo xk xe xp xc xt
abbrev CdH (K : PySem.W.Frag) (C : Addr) (m q : Str) (st : Stmt) : Prop := ∃ g xd xn xs xo xk xe xp xc xt, PySem.W.specialIn K (.ref C) "__getattribute__" = some (some (.builtin "type.__getattribute__")) ∧ PySem.W.readsIn K C (.type "type") = true ∧ PySem.W.findCls K (.ref C) (.type "type") m = some (.val (.ref g)) ∧ LkH K g m q st xd xn xs xo xk xe xp xc xt
section
variable {K : PySem.W.Frag} {h : Heap} {mg : Str → Option Value} {C : Addr} {m q : Str} {st : Stmt}
theorem DfH.has (d : DfH K m st) (X : K.In h) (G : h.Ns mainGlobals mg) : HasDef K mg m st := let ⟨_, _, _, _, _, _, _, _, _, _, a, l, c, k⟩ := d; HasDef.mk (PySem.W.mg_of X G a) l c k
theorem CdH.cd (d : CdH K C m q st) : ∃ f, FnAt K m q st f ∧ CMeth K C m f := let ⟨g, _, _, _, _, _, _, _, _, _, a, r, f, l, c, k⟩ := d; ⟨g, ⟨_, fun_mk (st := st) l c k⟩, ⟨a, r, f, by rfl, k⟩⟩
end
theorem all_mk {l : PySem.W.OpenLaw} {w : World} {K : PySem.W.Frag} {h : Heap} {mg : Str → Option Value} {fa g4_ g23_ : Addr} (X : K.In h) (G : h.Ns mainGlobals mg) (hfa : mg "law" = some (.ref fa))
    {R : Addr}
    (eR : PySem.W.nsIn K mainGlobals "RoomError" = some (some (.ref R)))
    (eh : PySem.W.specialIn K (.builtin "object.__class__") "__get__" = some (some (.builtin "getset_descriptor.__get__")))
    (et : PySem.W.takesIn K (.builtin "object.__class__") = some true)
    {C0 N0 x0 : Addr} {nm0 q0 : Str} {bs0 : List Value} {sn0 : List Str} {sub0 : List Value} {ab0 : Bool} {col0 : Option Bool} {dd0 : Option Addr} {k00_ k10_ k20_ k30_ k50_ : Option Value}
    (ea0 : PySem.W.nsIn K mainGlobals "NoPlace" = some (some (.ref C0)))
    (el0 : K.lookup C0 = some (excClassObj nm0 q0 C0 N0 bs0 [.ref R, .type "ValueError", .type "Exception", .type "BaseException", .type "object"] true sn0 sub0 ab0 col0 dd0 k00_ k10_ k20_ k30_ k50_ "ValueError.__new__"))
    {xd0 xn0 : Option Addr} {xs0 : Array (Option Value)} {xk0 xo0 xp0 xc0 xt0 : Value}
    (ei0 : PySem.W.findIn K (.ref C0) "__init__" = some (some (.ref x0)))
    (ef0 : K.lookup x0 = some ⟨.type "function", xd0, .func (PySem.W.fnOf "__init__" "NoPlace.__init__" (defArgs i_NoPlace) (defBody i_NoPlace) (defScope i_NoPlace) .none xk0 xo0 xp0 xn0 xc0 xt0), xs0⟩)
    (ec0 : PySem.W.codeIn K xc0 "NoPlace.__init__" = true) (ek0 : PySem.W.keepIn K (.ref x0) = true) (es0 : PySem.W.findIn K (.ref C0) "__setattr__" = some (some (.builtin "object.__setattr__")))
    (em0 : PySem.W.keepIn K (.ref C0) = true) (eg0 : PySem.W.findIn K (.ref C0) "__getattribute__" = some (some (.builtin "BaseException.__getattribute__"))) (eb0 : PySem.W.findIn K (.ref C0) "__getattr__" = some none) (ej0 : PySem.W.findIn K (.ref C0) "__class__" = some (some (.builtin "object.__class__")))
    (en0_0 : PySem.W.findIn K (.ref C0) "at" = some none)
    {od4_ an4_ : Option Addr} {sl4_ : Array (Option Value)} {oc4_ kV4_ dc4_ pm4_ cd4_ ct4_ : Value}
    {od23_ an23_ : Option Addr} {sl23_ : Array (Option Value)} {oc23_ kV23_ dc23_ pm23_ cd23_ ct23_ : Value}
    (d0_ : DfH K "is_whole" s_is_whole)
    (d1_ : DfH K "is_within" s_is_within)
    (d2_ : DfH K "do_copies" s_docopies)
    (d3_ : DfH K "need_marks" s_needmarks)
    {dA4 : Addr}
    (a4_ : PySem.W.nsIn K mainGlobals "carried" = some (some (.ref g4_))) (l4_ : K.lookup g4_ = some ⟨oc4_, od4_, .func (PySem.W.fnOf "carried" "carried" (defArgs s_carried) (defBody s_carried) (defScope s_carried) (.ref dA4) kV4_ dc4_ pm4_ an4_ cd4_ ct4_), sl4_⟩) (c4_ : PySem.W.codeIn K cd4_ "carried" = true) (k4_ : PySem.W.keepIn K (.ref g4_) = true) {dc4x : Value} {dd4x : Option Addr} {ds4x : Array (Option Value)} {dn4 : Nat} {tkd4_0 : Tok} (ld4_ : K.lookup dA4 = some ⟨dc4x, dd4x, .seq #[.int 0 tkd4_0, .none] dn4, ds4x⟩)
    (d5_ : DfH K "_law_cell_at" s_cell_at)
    (d6_ : DfH K "_law_box" s_box)
    (d7_ : DfH K "_law_take" s_take)
    (d8_ : DfH K "_law_names" s_names)
    (d9_ : DfH K "_law_many" s_many)
    (d10_ : DfH K "_law_rows" s_rows)
    (d11_ : DfH K "_law_mixed" s_mixed)
    (d12_ : DfH K "_law_room" s_lroom)
    (d13_ : DfH K "_law_steps" s_lsteps)
    (d14_ : DfH K "_law_copies" s_lcopies)
    (d15_ : DfH K "_law_clean" s_lclean)
    (d16_ : DfH K "_law_done" s_ldone)
    (d17_ : DfH K "_law_told" s_ltold)
    (d18_ : DfH K "_law_same" s_lsame)
    (d19_ : DfH K "_law_marks_right" s_lmarks)
    (d20_ : DfH K "_law_no_marks" s_lnomarks)
    (d21_ : DfH K "_law_no_places" s_lnoplaces)
    (d22_ : DfH K "_law_moved" s_lmoved)
    (a23_ : PySem.W.nsIn K mainGlobals "law" = some (some (.ref g23_))) (l23_ : K.lookup g23_ = some ⟨oc23_, od23_, .func (PySem.W.fnOf "law" "law" (defArgs s_law) (defBody s_law) (defScope s_law) .none kV23_ dc23_ pm23_ an23_ cd23_ ct23_), sl23_⟩) (c23_ : PySem.W.codeIn K cd23_ "law" = true) (k23_ : PySem.W.keepIn K (.ref g23_) = true)
    (nb0 : PySem.W.nsIn K mainGlobals "isinstance" = some none)
    (nb1 : PySem.W.nsIn K mainGlobals "int" = some none)
    (nb2 : PySem.W.nsIn K mainGlobals "bool" = some none)
    (nb3 : PySem.W.nsIn K mainGlobals "str" = some none)
    (nb4 : PySem.W.nsIn K mainGlobals "list" = some none)
    (nb5 : PySem.W.nsIn K mainGlobals "tuple" = some none)
    (nb6 : PySem.W.nsIn K mainGlobals "len" = some none)
    (nb7 : PySem.W.nsIn K mainGlobals "all" = some none)
    (nb8 : PySem.W.nsIn K mainGlobals "range" = some none)
    (nb9 : PySem.W.nsIn K mainGlobals "sorted" = some none)
    (nb10 : PySem.W.nsIn K mainGlobals "max" = some none)
    (nb11 : PySem.W.nsIn K mainGlobals "min" = some none)
    (nb12 : PySem.W.nsIn K mainGlobals "reversed" = some none)
    (nb13 : PySem.W.nsIn K mainGlobals "ValueError" = some none)
    {nmR qR : Str} {NR : Addr} {bsR bmR : List Value} {hdR : Bool} {snR : List Str} {subR : List Value} {abR : Bool} {colR : Option Bool} {ddR : Option Addr} {k0R k1R k2R k3R k5R : Option Value} {newR : String}
    (zc : K.lookup R = some (excClassObj nmR qR R NR bsR bmR hdR snR subR abR colR ddR k0R k1R k2R k3R k5R newR)) (zt : PySem.W.typeIn K (.ref R) = some (.type "type")) (zm : PySem.W.mroIn K R (.type "BaseException") = some true)
    : ∃ fd : FuncData, (∀ (s : Shared) (v : Value), BindsTo s fd ⟨[v], []⟩ [("_law_script", v)]) ∧ ∀ base : Heap, K.In base → base.Ns mainGlobals mg → FnOk l.prog w K mg base CX0 7 fa fd ["_law_script"] (sp_law K) := by
  have e := hfa.symm.trans (PySem.W.mg_of X G a23_)
  cases e
  have T : Txt K mg (fun i => ([C0] : List Addr).getD i 0) R  := {
    e_NoPlace := HasExc.mk1 (PySem.W.mg_of X G ea0) el0 ei0 ef0 ec0 ek0 em0 (excS_mk el0 es0) (excI_mk el0 eg0 eb0 ej0 eh et)
    k_NoPlace := ⟨_, _, _, _, _, _, _, _, _, _, _, _, _, _, _, el0⟩
    a_NoPlace_at := en0_0
    d_is_whole := d0_.has X G
    d_is_within := d1_.has X G
    d_docopies := d2_.has X G
    d_needmarks := d3_.has X G
    d_carried := ⟨tkd4_0, tkd4_0, _, _, _, _, _, _, _, _, _, _, _, _, _, l4_, c4_, k4_, PySem.W.mg_of X G a4_, ld4_, rfl⟩
    d_cell_at := d5_.has X G
    d_box := d6_.has X G
    d_take := d7_.has X G
    d_names := d8_.has X G
    d_many := d9_.has X G
    d_rows := d10_.has X G
    d_mixed := d11_.has X G
    d_lroom := d12_.has X G
    d_lsteps := d13_.has X G
    d_lcopies := d14_.has X G
    d_lclean := d15_.has X G
    d_ldone := d16_.has X G
    d_ltold := d17_.has X G
    d_lsame := d18_.has X G
    d_lmarks := d19_.has X G
    d_lnomarks := d20_.has X G
    d_lnoplaces := d21_.has X G
    d_lmoved := d22_.has X G
    n_isinstance := PySem.W.mg_none_of X G nb0
    n_int := PySem.W.mg_none_of X G nb1
    n_bool := PySem.W.mg_none_of X G nb2
    n_str := PySem.W.mg_none_of X G nb3
    n_list := PySem.W.mg_none_of X G nb4
    n_tuple := PySem.W.mg_none_of X G nb5
    n_len := PySem.W.mg_none_of X G nb6
    n_all := PySem.W.mg_none_of X G nb7
    n_range := PySem.W.mg_none_of X G nb8
    n_sorted := PySem.W.mg_none_of X G nb9
    n_max := PySem.W.mg_none_of X G nb10
    n_min := PySem.W.mg_none_of X G nb11
    n_reversed := PySem.W.mg_none_of X G nb12
    n_ValueError := PySem.W.mg_none_of X G nb13
    g_R := PySem.W.mg_of X G eR
    c_R := by unfold PySem.W.clsIn; rw [zc]; rfl
    t_R := zt
    m_R := zm
 }
  refine ⟨PySem.W.fnOf "law" "law" (defArgs s_law) (defBody s_law) (defScope s_law) .none kV23_ dc23_ pm23_ an23_ cd23_ ct23_, fun s v => .of_eq rfl, fun base _ _ => ?_⟩
  exact ok_law T (fun_mk (st := s_law) l23_ c23_ k23_)
theorem walk {l : PySem.W.OpenLaw} {q : Program} {loose : List Str} {XP : (Str → Option Value) → Heap → Prop} {YP : World → Heap → Prop} {d : DefRec} {K : Params → PySem.W.Frag} (hn : l.most = some 63) (hdf : d.params.defaults = [])
    (hY : ∀ (w : World) (h : Heap), YP w h → (K w.params).In h)
    (F : ∀ (w : World) (mg : Str → Option Value) (fa : Addr) (h : Heap), (K w.params).In h → h.Ns mainGlobals mg → mg d.name = some (.ref fa) →
      ∃ fd : FuncData, (∀ (s : Shared) (u : Value), BindsTo s fd ⟨[u], []⟩ [("_law_script", u)]) ∧ ∀ base : Heap, (K w.params).In base → base.Ns mainGlobals mg → FnOk l.prog w (K w.params) mg base CX0 7 fa fd ["_law_script"] (sp_law (K w.params))) :
    PySem.W.WalkO q loose XP YP l.row.toRowW d [] (fun f vs => PySem.call f vs) :=
  L2.walk_of (n := 63) (k := 7) (x := "_law_script") (CX := fun _ => CX0) (sp := fun w => sp_law (K w.params)) hn (by decide) hdf ⟨rfl, by decide, by decide, rfl⟩ hY F (fun _ _ a ns hl _ hS => ⟨a, ns, rfl, hS, hl, fun _ => rfl⟩) fun _ _ _ _ _ z => z
end K63
namespace PySem.W.Fast
def tw10134655774133037180:Unit:=()
def tw10651743437510866020:Unit:=()
def tw6990446466977382628:Unit:=()
def tw10047414041234684007:Unit:=()
def tw10090871179099253995:Unit:=()
def tw10356895641843939711:Unit:=()
def tw10500711946688743996:Unit:=()
def tw1066754202145051593:Unit:=()
def tw10674711106791158187:Unit:=()
def tw10770178248471671836:Unit:=()
def tw10787914046500999574:Unit:=()
def tw10887697849708108291:Unit:=()
def tw1101483622598406897:Unit:=()
def tw1111655941854791879:Unit:=()
def tw11173783275924352910:Unit:=()
def tw11290323552224730528:Unit:=()
def tw11329696554805753324:Unit:=()
def tw11405252740459778368:Unit:=()
def tw11443357153162540679:Unit:=()
def tw11496737641028802964:Unit:=()
def tw11557228542915330207:Unit:=()
def tw1170995187859350048:Unit:=()
def tw11740906016148766771:Unit:=()
def tw11746861560191035817:Unit:=()
def tw11812547090733843127:Unit:=()
def tw11839091490781719268:Unit:=()
def tw11903316123190186383:Unit:=()
def tw1190576104150656020:Unit:=()
def tw12045505577795953731:Unit:=()
def tw12055599896482686915:Unit:=()
def tw12191140919715408665:Unit:=()
def tw12305109816707268809:Unit:=()
def tw12503067701737752286:Unit:=()
def tw12700328253728472049:Unit:=()
def tw12729834856426825842:Unit:=()
def tw1301144798637533693:Unit:=()
def tw13083988506083468109:Unit:=()
def tw13151951478456789879:Unit:=()
def tw13180075778787196733:Unit:=()
def tw13219326408386184489:Unit:=()
def tw1324824647281577061:Unit:=()
def tw13296121266283178518:Unit:=()
def tw13296565916083959284:Unit:=()
def tw13507871163626300002:Unit:=()
def tw13565949152121434541:Unit:=()
def tw13579233487483559575:Unit:=()
def tw13689575841959256544:Unit:=()
def tw13727210751518208866:Unit:=()
def tw1376133986307036920:Unit:=()
def tw13798860186757131033:Unit:=()
def tw13815824175821996546:Unit:=()
def tw13910098432492286327:Unit:=()
def tw13941296960939164529:Unit:=()
def tw13948549913637633450:Unit:=()
def tw14058145827613629312:Unit:=()
def tw14077687617281225685:Unit:=()
def tw14108506808241967637:Unit:=()
def tw14110796361175212616:Unit:=()
def tw14124631701171353618:Unit:=()
def tw14303777738681598329:Unit:=()
def tw14308367917174098568:Unit:=()
def tw14512807161844753020:Unit:=()
def tw14768911560956393522:Unit:=()
def tw14776442026214587250:Unit:=()
def tw14798089066586362174:Unit:=()
def tw14930841380957717426:Unit:=()
def tw15240659043436956364:Unit:=()
def tw15255266185152751558:Unit:=()
def tw15279950617458077745:Unit:=()
def tw15330646254760857234:Unit:=()
def tw153537468634608618:Unit:=()
def tw15451468402598480227:Unit:=()
def tw15479964305842557420:Unit:=()
def tw15568428547191631106:Unit:=()
def tw15641419857326894832:Unit:=()
def tw15702073547853021331:Unit:=()
def tw15748591128502637865:Unit:=()
def tw15776482802994718199:Unit:=()
def tw15925266774160333166:Unit:=()
def tw16075484315557391752:Unit:=()
def tw16122315335437736987:Unit:=()
def tw16160358374308032058:Unit:=()
def tw16243100113441018454:Unit:=()
def tw16317240725192335351:Unit:=()
def tw16323524818800537007:Unit:=()
def tw16342904847331817244:Unit:=()
def tw1635750034669976748:Unit:=()
def tw16482557900231575897:Unit:=()
def tw16552482452806270430:Unit:=()
def tw16584746195283893763:Unit:=()
def tw16774473648751415591:Unit:=()
def tw16843123871493438736:Unit:=()
def tw16860933614536106252:Unit:=()
def tw16965783844796699764:Unit:=()
def tw17006639894128552425:Unit:=()
def tw17137351382010298697:Unit:=()
def tw17179832716007234600:Unit:=()
def tw17184801606526490318:Unit:=()
def tw17367089299235648750:Unit:=()
def tw17505436719855267946:Unit:=()
def tw17519047523525713838:Unit:=()
def tw17532491069713916754:Unit:=()
def tw17754751747462481148:Unit:=()
def tw17804932732462841571:Unit:=()
def tw17811146117466328093:Unit:=()
def tw17912589363140011428:Unit:=()
def tw17987118283299874550:Unit:=()
def tw18019849669574006808:Unit:=()
def tw18048911839435327563:Unit:=()
def tw18049269124091436864:Unit:=()
def tw1825652086980612628:Unit:=()
def tw183230439566432627:Unit:=()
def tw18335256369051538105:Unit:=()
def tw1839019704480167923:Unit:=()
def tw1961720638792316648:Unit:=()
def tw1967087987857401937:Unit:=()
def tw2160472679741302766:Unit:=()
def tw2360600109637819275:Unit:=()
def tw247530357894051777:Unit:=()
def tw26759055187470775:Unit:=()
def tw2713770690918632391:Unit:=()
def tw2717200212097686193:Unit:=()
def tw27543702747415053:Unit:=()
def tw2950069686956120244:Unit:=()
def tw2973331688208171595:Unit:=()
def tw3264667313916639130:Unit:=()
def tw3334607355859815592:Unit:=()
def tw337713597284688310:Unit:=()
def tw3482608786631882827:Unit:=()
def tw3502668761348193827:Unit:=()
def tw3644001988037318931:Unit:=()
def tw3647852088316530512:Unit:=()
def tw37371359551669982:Unit:=()
def tw377191632065571119:Unit:=()
def tw406049722473130147:Unit:=()
def tw4078475319848283905:Unit:=()
def tw4281114757245853889:Unit:=()
def tw4290894160758209287:Unit:=()
def tw4373666413276994990:Unit:=()
def tw4487621875151294961:Unit:=()
def tw4596461541726617152:Unit:=()
def tw4703901218811913506:Unit:=()
def tw4979023658021853098:Unit:=()
def tw5145019313677273096:Unit:=()
def tw5182728220294666367:Unit:=()
def tw5384150461924016353:Unit:=()
def tw5389219281232960724:Unit:=()
def tw540731672479855077:Unit:=()
def tw5439418192652541605:Unit:=()
def tw5453756648102304153:Unit:=()
def tw5571989200860863111:Unit:=()
def tw5976201720373792624:Unit:=()
def tw6209911329823461263:Unit:=()
def tw6240077921872988228:Unit:=()
def tw6409873353914609134:Unit:=()
def tw6448210267584964076:Unit:=()
def tw646984038485962275:Unit:=()
def tw6506652525475989285:Unit:=()
def tw656835014952411494:Unit:=()
def tw6592898917592466244:Unit:=()
def tw6733926429108861330:Unit:=()
def tw6793296218700051965:Unit:=()
def tw6999933111600746769:Unit:=()
def tw7016598037049886775:Unit:=()
def tw7107197646317909768:Unit:=()
def tw7163387771153510672:Unit:=()
def tw7168836150463646493:Unit:=()
def tw7302572483851382636:Unit:=()
def tw7348932683888078911:Unit:=()
def tw7464847753303153553:Unit:=()
def tw7486122275521627115:Unit:=()
def tw7487252030908833679:Unit:=()
def tw7495826984997248349:Unit:=()
def tw7654353335763389696:Unit:=()
def tw7743021761440241129:Unit:=()
def tw7915430730842061330:Unit:=()
def tw7926783831611655376:Unit:=()
def tw7939947528736667797:Unit:=()
def tw7974195340636967865:Unit:=()
def tw8015954531812067081:Unit:=()
def tw8047135198822248550:Unit:=()
def tw8092986493479911385:Unit:=()
def tw8113349724356990968:Unit:=()
def tw8230384561660784204:Unit:=()
def tw8279794144041545063:Unit:=()
def tw8297791475346642461:Unit:=()
def tw8427526122574944013:Unit:=()
def tw8599733214055494260:Unit:=()
def tw8867855430810262592:Unit:=()
def tw8871884402503114986:Unit:=()
def tw8998000293686431035:Unit:=()
def tw9014386543639915001:Unit:=()
def tw9053191402615104508:Unit:=()
def tw9190297826291760356:Unit:=()
def tw9253567337722321799:Unit:=()
def tw9334271002249884202:Unit:=()
def tw9388735839824633298:Unit:=()
def tw9597684880352836848:Unit:=()
def tw9636226131689168653:Unit:=()
def tw9694589536833730366:Unit:=()
def tw9701972952636549393:Unit:=()
def tw9717352122446611967:Unit:=()
def tw9852290295965052298:Unit:=()
def tw9914557147582188024:Unit:=()
def tw9918331180039919882:Unit:=()
def tw9939891197250208887:Unit:=()
def tw9943533712392935404:Unit:=()
def tw9957686530801163105:Unit:=()
def tw9998590774676810290:Unit:=()
def tw14292779187518184125:Unit:=()
def tw4377786284431564332:Unit:=()
def tw7042811525410834839:Unit:=()
def tw8128728623722647492:Unit:=()
def tw1519362270927228719:Unit:=()
def tw16530156327672792326:Unit:=()
def tw82280686956694651:Unit:=()
def tw906421679409192958:Unit:=()
def tw9809283954279497723:Unit:=()
def tw18217138730048432897:Unit:=()
end PySem.W.Fast
open PySem PySem.W PyProof.Rows
set_option maxRecDepth 100000 in
set_option maxHeartbeats 0 in
theorem PySem.Challenge.cw_slideroom_k63_whole_broken_off_and_gone_holds : PySem.Challenge.rw_slideroom_k63_whole_broken_off_and_gone.Holds := by
  w_on; o_law; k_head; (case hw => w_witness2)
  k_fill
  refine K63.walk (l := PySem.Challenge.rw_slideroom_k63_whole_broken_off_and_gone) rfl rfl (fun w h Y => PySem.W.kIn_of Y) ?F
  case F =>
    intro w mg fa h KX G hmg
    refine' K63.all_mk KX G hmg ?_ ?_ ?_ ?_ ?_ ?_ ?_ ?_ ?_ ?_ ?_ ?_ ?_ ?_ ?_ ?_ ?_ ?_ ?_ ?_ ?_ ?_ ?_ ?_ ?_ ?_ ?_ ?_ ?_ ?_ ?_ ?_ ?_ ?_ ?_ ?_ ?_ ?_ ?_ ?_ ?_ ?_ ?_ ?_ ?_ ?_ ?_ ?_ ?_ ?_ ?_ ?_ ?_ ?_ ?_ ?_ ?_ ?_ ?_ ?_ ?_ ?_ ?_
    all_goals try first
      | k_is
      | exact ⟨_, _, _, _, _, _, _, _, _, _, by k_is, by k_is, by k_is, by k_is⟩
      | exact ⟨_, _, _, _, _, _, _, _, _, _, by k_is, by k_is, by k_is, by k_is, by k_is⟩
      | exact ⟨_, _, _, _, _, _, _, _, _, _, by k_is, by k_is, by k_is, by k_is, by k_is, by k_is⟩
      | exact ⟨by k_is, by k_is, by k_is, by k_is, by k_is, by k_is⟩

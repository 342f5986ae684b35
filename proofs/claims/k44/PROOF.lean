import PyProof.Rows.All
import Wide.All
import OpenK.AllK
import Wide.FinOn
import Lean
import PyProof.EqAt
import PyProof.EqKinds
import PyProof.TupleCall
import PyProof.NeKinds
import PyProof.ExcInit
import PyProof.StationsW
import PyProof.ExcBaseAll.ValueError
import PyProof.ExcArgs
import KE.KIsAll
import PyProof.ReprRoads
import PyProof.CallFns
import PyProof.ExcClass3
import PyProof.StrBlock2
import PyProof.FitsInt
import PyProof.StrLawsRepr
import KE.KTryMore
import PyProof.RulesAs
import KE.KIntText
import PyProof.StrLawsChain
import PyProof.StrCalls2
import PyProof.ZipIter
import PyProof.Conv_bool
import PyProof.CallStr
import PyProof.TupleIter
import KE.KEqDict
import PyProof.AutoListH
import PySem.Challenge.RW_slideroom_k44_pieces_made_anew
-- CHANGE: your row's module here, as the last of these rows
set_option Elab.async false
set_option linter.all false
set_option maxRecDepth 100000
namespace L2
open PySem PySem.Spec PyProof.Rows
abbrev Key := Sum Int Str
def keyIs : Key → Value → Bool
  | .inl k, v => Value.isInt k v
  | .inr x, v => Value.isStrOf x v
def keyH (w : World) : Key → Int
  | .inl k => hashInt k
  | .inr x => hashStr w x
theorem keyIs_shape : ∀ {k : Key} {v : Value}, keyIs k v = true → (∃ i t, k = Sum.inl i ∧ v = Value.int i t) ∨ (∃ x t, k = Sum.inr x ∧ v = Value.str x t)
  | .inl i, v, h => by
    obtain ⟨t, e⟩ := Value.isInt_shape (k := i) (v := v) h
    exact .inl ⟨i, t, rfl, e⟩
  | .inr x, v, h => by
    obtain ⟨t, e⟩ := Value.isStrOf_shape (x := x) (v := v) h
    exact .inr ⟨x, t, rfl, e⟩
theorem key_ll (a b : Int) : decide ((Sum.inl a : Key) = Sum.inl b) = (a == b) := by
  by_cases e : a = b
  · subst e; simp
  · have h : ¬ (Sum.inl a : Key) = Sum.inl b := fun q => e (Sum.inl.inj q)
    rw [decide_eq_false h]
    exact (beq_eq_false_iff_ne.mpr e).symm
theorem key_rr (a b : Str) : decide ((Sum.inr a : Key) = Sum.inr b) = decide (a = b) := by
  by_cases e : a = b
  · subst e; simp
  · have h : ¬ (Sum.inr a : Key) = Sum.inr b := fun q => e (Sum.inr.inj q)
    rw [decide_eq_false h, decide_eq_false e]
theorem key_lr (a : Int) (b : Str) : decide ((Sum.inl a : Key) = Sum.inr b) = false := decide_eq_false (fun q => nomatch q)
theorem key_rl (a : Str) (b : Int) : decide ((Sum.inr a : Key) = Sum.inl b) = false := decide_eq_false (fun q => nomatch q)
def mixKind (prog : Program) (w : World) : PySem.KeyKind prog w Key where
  is := keyIs
  hash := keyH w
  inj := fun v a b ha hb => by
    rcases keyIs_shape ha with ⟨i, t, rfl, rfl⟩ | ⟨x, t, rfl, rfl⟩
    · rcases keyIs_shape hb with ⟨j, u, rfl, e⟩ | ⟨y, u, rfl, e⟩
      · injection e with e1 _; rw [e1]
      · exact nomatch e
    · rcases keyIs_shape hb with ⟨j, u, rfl, e⟩ | ⟨y, u, rfl, e⟩
      · exact nomatch e
      · injection e with e1 _; rw [e1]
  byValue := fun k v h => by
    rcases keyIs_shape h with ⟨i, t, rfl, rfl⟩ | ⟨x, t, rfl, rfl⟩ <;> rfl
  pyHash := fun hv h => by
    rcases keyIs_shape hv with ⟨i, t, rfl, rfl⟩ | ⟨x, t, rfl, rfl⟩
    · exact wpAny_pyHash_int h
    · exact wpAny_pyHash_str h
  eqBool := fun hu hv h => by
    rcases keyIs_shape hu with ⟨i, t, rfl, rfl⟩ | ⟨x, t, rfl, rfl⟩
    · rcases keyIs_shape hv with ⟨j, u, rfl, rfl⟩ | ⟨y, u, rfl, rfl⟩
      · rw [key_ll] at h; exact wpAny_eqBool_int h
      · rw [key_lr] at h; exact SeqAt.EqAt.int_str i t y u _ _ _ _ h
    · rcases keyIs_shape hv with ⟨j, u, rfl, rfl⟩ | ⟨y, u, rfl, rfl⟩
      · rw [key_rl] at h; exact SeqAt.EqAt.str_int x t j u _ _ _ _ h
      · rw [key_rr] at h; exact wpAny_eqBool_str h
  «strs» := fun k x t v h => by
    rcases keyIs_shape h with ⟨i, u, rfl, e⟩ | ⟨y, u, rfl, e⟩
    · exact nomatch e
    · injection e with e1 _
      subst e1
      cases v <;> rfl
inductive V where
  | non | bl (b : Bool) | int (i : Int) | str (x : Str) | byt (b : Array UInt8) | flt (b : UInt64) | ref (a : Addr) | ty (n : String)
  deriving DecidableEq
def RelV : V → Value → Prop
  | .non, u => u = Value.none
  | .bl b, u => u = Value.bool b
  | .int i, u => ∃ t, u = Value.int i t
  | .str x, u => ∃ t, u = Value.str x t
  | .byt b, u => ∃ t, u = Value.bytes b t
  | .flt b, u => ∃ t, u = Value.float b t
  | .ref a, u => u = Value.ref a
  | .ty n, u => u = Value.type n
abbrev Vals : List V → List Value → Prop := Paired RelV
theorem Vals.length {xs : List V} {us : List Value} (r : Vals xs us) : xs.length = us.length := Paired.length r
theorem Vals.get : ∀ {xs : List V} {us : List Value} {i : Nat} {x : V}, Vals xs us → xs[i]? = some x → ∃ u, us[i]? = some u ∧ RelV x u
  | _, _, _, _, .nil, e => by simp at e
  | _, _, 0, _, .cons r _, e => by simp at e; subst e; exact ⟨_, rfl, r⟩
  | _, _, i + 1, x, .cons _ t, e => by
    obtain ⟨u, h1, h2⟩ := Vals.get (i := i) (x := x) t (by simpa using e)
    exact ⟨u, by simpa using h1, h2⟩
theorem Vals.set {x : V} {u : Value} (r : RelV x u) : ∀ {xs : List V} {us : List Value} (i : Nat), Vals xs us → Vals (xs.set i x) (us.set i u)
  | _, _, _, .nil => .nil
  | _, _, 0, .cons _ t => .cons r t
  | _, _, i + 1, .cons q t => .cons q (Vals.set r i t)
theorem Vals.append : ∀ {xs ys : List V} {us ws : List Value}, Vals xs us → Vals ys ws → Vals (xs ++ ys) (us ++ ws)
  | _, _, _, _, .nil, s => s
  | _, _, _, _, .cons r t, s => .cons r (Vals.append t s)
theorem Vals.take : ∀ {xs : List V} {us : List Value} (n : Nat), Vals xs us → Vals (xs.take n) (us.take n)
  | _, _, 0, _ => .nil
  | _, _, _ + 1, .nil => .nil
  | _, _, n + 1, .cons r t => .cons r (Vals.take n t)
theorem Vals.drop : ∀ {xs : List V} {us : List Value} (n : Nat), Vals xs us → Vals (xs.drop n) (us.drop n)
  | _, _, 0, r => r
  | _, _, _ + 1, .nil => .nil
  | _, _, n + 1, .cons _ t => Vals.drop n t
def RelO : Option V → Option Value → Prop
  | some v, some u => RelV v u
  | none, none => True
  | _, _ => False
def KV {κ : Type} : List (κ × V) → List (κ × Value) → Prop := Paired fun (p : κ × V) (q : κ × Value) => p.1 = q.1 ∧ RelV p.2 q.2
def kV : Key → V
  | .inl i => .int i
  | .inr x => .str x
inductive HO where
  /-- a list -/
  | lst (xs : List V)
  /-- a tuple (never changes) -/
  | tup (xs : List V)
  /-- a dict whose keys are ints and texts; one whose keys are tuples of ints and texts (the empty one is both) -/
  | dK (kvs : List (Key × V)) | dT (kvs : List (List Key × V))
  /-- a set of ints: its members, its size -/
  | set (S : Int → Bool) (n : Nat)
  /-- an instance of the class at C, its dict at dx, its attributes -/
  | ins (C dx : Addr) (fs : List (Str × V))
  /-- the dict of the instance at x -/
  | own (x : Addr)
  /-- the dict of an exception -/
  | xd (fs : List (Str × V))
  /-- a bound method, f of x -/
  | met (f x : Addr)
  /-- a range object lo, lo + 1, .. below hi -/
  | rng (lo hi : Int)
  /-- a thing that is known to the object (the script; a dict while a loop walks it): read, never written while it is so -/
  | frz (o : Obj) (u : HO)
  /-- a code object's table -/
  | tbl (ps : Array Value)
  /-- any other thing, by what is true of its one object (a def of one's own: SetO a S n := HO.ext fun h => ..) -/
  | ext (φ : Heap → Prop)
abbrev Hp := Addr → Option HO
def upd (H : Hp) (a : Addr) (o : HO) : Hp := fun b => if b = a then some o else H b
theorem upd_same {H : Hp} {a : Addr} {o : HO} : upd H a o a = some o := by unfold upd; rw [if_pos rfl]
theorem upd_ne {H : Hp} {a b : Addr} {o : HO} (h : b ≠ a) : upd H a o b = H b := by unfold upd; rw [if_neg h]
theorem ne_of {H : Hp} {a b : Addr} {o u : HO} (h : H a = some o) (h' : H b = some u) (d : o ≠ u) : a ≠ b := by
  intro e; subst e; rw [h] at h'; exact d (Option.some.inj h')
theorem ne_of_none {H : Hp} {a b : Addr} {o : HO} (h : H a = some o) (h' : H b = none) : a ≠ b := by
  intro e; subst e; rw [h] at h'; cases h'
section
variable (P : Program) (w : World)
def ObjOk (H : Hp) (h : Heap) (a : Addr) : HO → Prop
  | .lst xs => xs.length ≤ sizeLine ∧ ∃ (its : List Value) (n : Nat), Vals xs its ∧ h.get? a = some { cls := .type "list", data := .seq its.toArray n }
  | .tup xs => xs.length ≤ sizeLine ∧ ∃ its : List Value, Vals xs its ∧ IsTup h a its.toArray
  | .dK kvs => kvs.length ≤ sizeLine ∧ (a == sysModules) = false ∧ ∃ vs, KV kvs vs ∧ h.DictOf (mixKind P w) a vs
  | .dT kvs => kvs.length ≤ sizeLine ∧ (a == sysModules) = false ∧ ∃ xs : List (List Key × Addr × Value),
      Paired (fun (p : List Key × V) (q : List Key × Addr × Value) => p.1 = q.1 ∧ H q.2.1 = some (.tup (p.1.map kV)) ∧ RelV p.2 q.2.2) kvs xs ∧
      ∃ o es ep, h.get? a = some o ∧ o.ExactDict ∧ o.data = .dict es ep ∧ es.toList = xs.map (entryOfKey (tupleKind (mixKind P w))) ∧ (xs.map (·.1)).Nodup
  | .set S n => h.SetOf (intKind P w) a S n
  | .ins C dx fs => H dx = some (.own a) ∧ fs.length ≤ 1000 ∧ dx ≠ a ∧ h.get? a = some (PySem.W.instObj C dx) ∧
      ∃ mA, h.Ns1 dx mA ∧ (∀ f, RelO (fs.lookup f) (mA f)) ∧ PySem.Within mA (fs.map (·.1))
  | .own _ => ∃ o, h.get? a = some o
  | .xd fs => ∃ mA, h.Ns1 a mA ∧ ∀ f, RelO (fs.lookup f) (mA f)
  | .rng lo hi => ∃ t u v, h.get? a = some { cls := .type "range", data := .fields #[.int lo t, .int hi u, .int 1 v] }
  | .frz o u => h.get? a = some o ∧ ObjOk H h a u
  | .tbl ps => h.get? a = some { cls := .none, data := .fields ps }
  | .met f x => h.get? a = some (PySem.W.methodObj (.ref f) (.ref x))
  | .ext φ => φ h ∧ (∃ o, h.get? a = some o) ∧ ∀ h1 h2 : Heap, φ h1 → (∀ o, h1.get? a = some o → h2.get? a = some o) → φ h2
def HOk (H : Hp) (h : Heap) : Prop := ∀ a o, H a = some o → ObjOk P w H h a o
end
section
variable {P : Program} {w : World} {H H' : Hp} {h h' : Heap} {a : Addr} {o : HO}
theorem ObjOk.lt (x : ObjOk P w H h a o) : a < h.objs.size := by
  cases o with
  | lst xs => obtain ⟨_, _, _, _, e⟩ := x; exact Heap.lt_size e
  | tup xs => obtain ⟨_, _, _, p⟩ := x; exact p.lt
  | dK kvs => obtain ⟨_, _, _, _, o, _, _, e, _⟩ := x; exact Heap.lt_size e
  | dT kvs => obtain ⟨_, _, _, _, o, _, _, e, _⟩ := x; exact Heap.lt_size e
  | set S n => obtain ⟨o, _, _, _, e, _⟩ := x; exact Heap.lt_size e
  | ins C dx fs => obtain ⟨_, _, _, e, _⟩ := x; exact Heap.lt_size e
  | own y => obtain ⟨_, e⟩ := x; exact Heap.lt_size e
  | xd fs => obtain ⟨_, ⟨_, _, _, e, _⟩, _⟩ := x; exact Heap.lt_size e
  | rng lo hi => obtain ⟨_, _, _, e⟩ := x; exact Heap.lt_size e
  | frz ob u => obtain ⟨e, _⟩ := x; exact Heap.lt_size e
  | tbl ps => exact Heap.lt_size (show h.get? a = some _ from x)
  | met f y => exact Heap.lt_size (show h.get? a = some _ from x)
  | ext φ => obtain ⟨_, ⟨_, e⟩, _⟩ := x; exact Heap.lt_size e
theorem Paired.mapP {α β : Type} {F G : α → β → Prop} : ∀ {l₁ : List α} {l₂ : List β}, Paired F l₁ l₂ → (∀ a b, F a b → G a b) → Paired G l₁ l₂
  | _, _, .nil, _ => .nil
  | _, _, .cons r t, f => .cons (f _ _ r) (Paired.mapP t f)
theorem ObjOk.stay (x : ObjOk P w H h a o) (k : ∀ b u, (b = a ∨ H b = some (.own a)) → h.get? b = some u → h'.get? b = some u)
    (ho : ∀ b, H b = some (.own a) → H' b = some (.own a)) (ht : ∀ b xs, H b = some (.tup xs) → H' b = some (.tup xs)) : ObjOk P w H' h' a o := by
  induction o with
  | lst xs => obtain ⟨z, its, n, r, e⟩ := x; exact ⟨z, its, n, r, k _ _ (.inl rfl) e⟩
  | tup xs => obtain ⟨z, its, r, ob, e, c⟩ := x; exact ⟨z, its, r, ob, k _ _ (.inl rfl) e, c⟩
  | dK kvs => obtain ⟨z, y, vs, r, ob, es, ep, e, c⟩ := x; exact ⟨z, y, vs, r, ob, es, ep, k _ _ (.inl rfl) e, c⟩
  | dT kvs =>
    obtain ⟨z, y, xs, r, ob, es, ep, e, c⟩ := x
    exact ⟨z, y, xs, Paired.mapP r fun p q z => ⟨z.1, ht _ _ z.2.1, z.2.2⟩, ob, es, ep, k _ _ (.inl rfl) e, c⟩
  | set S n => obtain ⟨ob, es, ep, t, e, c⟩ := x; exact ⟨ob, es, ep, t, k _ _ (.inl rfl) e, c⟩
  | ins C dx fs =>
    obtain ⟨d, z, ne, e, mA, ⟨od, es, ep, e2, c⟩, r⟩ := x
    exact ⟨ho _ d, z, ne, k _ _ (.inl rfl) e, mA, ⟨od, es, ep, k _ _ (.inr d) e2, c⟩, r⟩
  | own y => obtain ⟨ob, e⟩ := x; exact ⟨ob, k _ _ (.inl rfl) e⟩
  | xd fs => obtain ⟨mA, ⟨od, es, ep, e, c⟩, r⟩ := x; exact ⟨mA, ⟨od, es, ep, k _ _ (.inl rfl) e, c⟩, r⟩
  | rng lo hi => obtain ⟨t, u, v, e⟩ := x; exact ⟨t, u, v, k _ _ (.inl rfl) e⟩
  | frz ob u ih => obtain ⟨e, q⟩ := x; exact ⟨k _ _ (.inl rfl) e, ih q⟩
  | tbl ps =>
    have e : h.get? a = some { cls := .none, data := .fields ps } := x
    show h'.get? a = some { cls := .none, data := .fields ps }
    exact k a _ (.inl rfl) e
  | met f y =>
    have e : h.get? a = some (PySem.W.methodObj (.ref f) (.ref y)) := x
    show h'.get? a = some (PySem.W.methodObj (.ref f) (.ref y))
    exact k a _ (.inl rfl) e
  | ext φ => obtain ⟨p, ⟨o, e⟩, st⟩ := x; exact ⟨st _ _ p fun o q => k _ _ (.inl rfl) q, ⟨o, k _ _ (.inl rfl) e⟩, st⟩
theorem HOk.lt (x : HOk P w H h) (e : H a = some o) : a < h.objs.size := (x a o e).lt
theorem HOk.fresh (x : HOk P w H h) (e : h.objs.size ≤ a) : H a = none := by
  cases q : H a with
  | none => rfl
  | some u => exact absurd (Nat.lt_of_lt_of_le (x.lt q) e) (Nat.lt_irrefl _)
theorem HOk.kept (x : HOk P w H h) (k : ∀ b u, h.get? b = some u → h'.get? b = some u) : HOk P w H h' := fun a o e =>
  (x a o e).stay (fun b u _ q => k b u q) (fun _ q => q) fun _ _ q => q
theorem HOk.laid (x : HOk P w H h) (k : ∀ b u, h.get? b = some u → h'.get? b = some u) (hp : h.objs.size ≤ a) (new : ObjOk P w (upd H a o) h' a o) : HOk P w (upd H a o) h' := fun b u e => by
  have hn := x.fresh hp
  by_cases hb : b = a
  · subst hb; rw [upd_same] at e; cases e; exact new
  · rw [upd_ne hb] at e
    exact (x b u e).stay (fun c v _ q => k c v q) (fun c q => by rw [upd_ne (ne_of_none q hn)]; exact q) fun c xs q => by rw [upd_ne (ne_of_none q hn)]; exact q
end
def Rd (H : Hp) (a : Addr) (u : HO) : Prop := H a = some u ∨ ∃ o, H a = some (.frz o u)
theorem Rd.of {H : Hp} {a : Addr} {u : HO} (h : H a = some u) : Rd H a u := .inl h
theorem Rd.ok {P : Program} {w : World} {H : Hp} {h : Heap} {a : Addr} {u : HO} (r : Rd H a u) (x : HOk P w H h) : ObjOk P w H h a u := by
  rcases r with r | ⟨o, r⟩
  · exact x a u r
  · obtain ⟨_, q⟩ := x a _ r
    exact q
def Mut : Option HO → Prop
  | some (.lst _) => True
  | some (.dK _) => True
  | some (.dT _) => True
  | some (.set _ _) => True
  | some (.ins _ _ _) => True
  | some (.ext _) => True
  | _ => False
section
variable {P : Program} {w : World} {H : Hp} {h h' : Heap} {x e : Addr} {o' : HO}
theorem HOk.write (ok : HOk P w H h) (mu : Mut (H x)) (he : e = x ∨ H e = some (.own x)) (k : ∀ b u, b ≠ e → h.get? b = some u → h'.get? b = some u) (heo : ∃ u, h'.get? e = some u)
    (new : ObjOk P w (upd H x o') h' x o') : HOk P w (upd H x o') h' := fun b u q => by
  have nown : ∀ c y, H c = some (.own y) → c ≠ x := fun c y r z => by subst z; rw [r] at mu; exact mu
  have ntup : ∀ c xs, H c = some (.tup xs) → c ≠ x := fun c xs r z => by subst z; rw [r] at mu; exact mu
  by_cases hb : b = x
  · subst hb; rw [upd_same] at q; cases q; exact new
  · rw [upd_ne hb] at q
    by_cases hbe : b = e
    · have q' : H b = some (.own x) := by
        rcases he with z | z
        · exact absurd (hbe.trans z) hb
        · rw [hbe]; exact z
      rw [q] at q'; cases q'
      obtain ⟨v, hv⟩ := heo
      exact ⟨v, by rw [hbe]; exact hv⟩
    · refine (ok b u q).stay (fun c v hc r => k c v ?_ r) (fun c r => by rw [upd_ne (nown c b r)]; exact r) fun c xs r => by rw [upd_ne (ntup c xs r)]; exact r
      rcases hc with rfl | hc
      · exact hbe
      · rintro rfl
        rcases he with z | z
        · exact nown c b hc z
        · rw [hc] at z; cases z; exact hb rfl
end
structure Un (fs ex : List Addr) (H H' : Hp) (h h' : Heap) : Prop where
  keep : ∀ b o, h.get? b = some o → H b = none → b ∉ fs → b ∉ ex → h'.get? b = some o
  slot : ∀ b o, h.get? b = some o → H b = none → b ∈ fs → b ∉ ex → ∃ sl, h'.get? b = some { o with slots := sl }
  free : ∀ b o, h.get? b = some o → H b = none → b ∉ ex → H' b = none
  there : ∀ b o, h.get? b = some o → b ∉ ex → ∃ o', h'.get? b = some o'
  tups : ∀ b xs, H b = some (.tup xs) → H' b = some (.tup xs)
  frzs : ∀ b o u, H b = some (.frz o u) → H' b = some (.frz o u)
  tbls : ∀ b ps, H b = some (.tbl ps) → ∃ more, H' b = some (.tbl (ps ++ more))
section
variable {fs fs' ex ex' : List Addr} {H H1 H2 : Hp} {h h1 h2 h' : Heap} {a x e : Addr} {o : HO}
theorem Un.any (u : Un fs ex H H1 h h1) {b : Addr} {ob : Obj} (q : h.get? b = some ob) (n : H b = none) (hx : b ∉ ex) : ∃ sl, h1.get? b = some { ob with slots := sl } := by
  by_cases hb : b ∈ fs
  · exact u.slot b ob q n hb hx
  · exact ⟨ob.slots, u.keep b ob q n hb hx⟩
theorem Un.trans (a : Un fs ex H H1 h h1) (b : Un fs ex H1 H2 h1 h2) : Un fs ex H H2 h h2 where
  keep := fun c ob q n hc hx => b.keep c ob (a.keep c ob q n hc hx) (a.free c ob q n hx) hc hx
  slot := fun c ob q n hc hx => by
    obtain ⟨sl, e1⟩ := a.slot c ob q n hc hx
    obtain ⟨sl', e2⟩ := b.slot c _ e1 (a.free c ob q n hx) hc hx
    exact ⟨sl', e2⟩
  free := fun c ob q n hx => by
    obtain ⟨o', e1⟩ := a.there c ob q hx
    exact b.free c o' e1 (a.free c ob q n hx) hx
  there := fun c ob q hx => by
    obtain ⟨o', e1⟩ := a.there c ob q hx
    exact b.there c o' e1 hx
  tups := fun c xs q => b.tups c xs (a.tups c xs q)
  frzs := fun c ob xs q => b.frzs c ob xs (a.frzs c ob xs q)
  tbls := fun c ps q => by
    obtain ⟨m1, e1⟩ := a.tbls c ps q
    obtain ⟨m2, e2⟩ := b.tbls c _ e1
    exact ⟨m1 ++ m2, by rw [e2, Array.append_assoc]⟩
theorem Un.kept (k : ∀ b u, h.get? b = some u → h'.get? b = some u) : Un fs ex H H h h' :=
  ⟨fun b ob q _ _ _ => k b ob q, fun b ob q _ _ _ => ⟨ob.slots, k b ob q⟩, fun _ _ _ n _ => n, fun b ob q _ => ⟨ob, k b ob q⟩, fun _ _ q => q, fun _ _ _ q => q, fun _ ps q => ⟨#[], by rw [q]; simp⟩⟩
theorem Un.refl : Un fs ex H H h h := Un.kept fun _ _ q => q
theorem Un.laid (k : ∀ b u, h.get? b = some u → h'.get? b = some u) (hp : h.objs.size ≤ a) (hn : H a = none) : Un fs ex H (upd H a o) h h' where
  keep := fun b u q _ _ _ => k b u q
  slot := fun b u q _ _ _ => ⟨u.slots, k b u q⟩
  free := fun b u q n _ => by rw [upd_ne (Nat.ne_of_lt (Nat.lt_of_lt_of_le (Heap.lt_size q) hp))]; exact n
  there := fun b u q _ => ⟨u, k b u q⟩
  tups := fun b xs q => by rw [upd_ne (ne_of_none q hn)]; exact q
  frzs := fun b u xs q => by rw [upd_ne (ne_of_none q hn)]; exact q
  tbls := fun b ps q => ⟨#[], by rw [upd_ne (ne_of_none q hn), q]; simp⟩
theorem Un.write (mu : Mut (H x)) (he : e = x ∨ H e = some (.own x)) (k : ∀ b u, b ≠ e → h.get? b = some u → h'.get? b = some u) (heo : ∃ u, h'.get? e = some u) : Un fs ex H (upd H x o) h h' := by
  have hx : ∀ b, H b = none → b ≠ x := fun b n z => by subst z; rw [n] at mu; exact mu
  have hb : ∀ b, H b = none → b ≠ e := fun b n z => by
    subst z
    rcases he with r | r
    · exact hx b n r
    · rw [n] at r; cases r
  have hm : ∀ b u, H b = some u → ¬ Mut (some u) → b ≠ x := fun b u q nm z => by subst z; rw [q] at mu; exact nm mu
  refine ⟨fun b u q n _ _ => k b u (hb b n) q, fun b u q n _ _ => ⟨u.slots, k b u (hb b n) q⟩, fun b u q n _ => by rw [upd_ne (hx b n)]; exact n, fun b u q _ => ?_,
    fun b xs q => by rw [upd_ne (hm b _ q fun z => z)]; exact q, fun b u xs q => by rw [upd_ne (hm b _ q fun z => z)]; exact q, fun b ps q => ⟨#[], by rw [upd_ne (hm b _ q fun z => z), q]; simp⟩⟩
  by_cases hbe : b = e
  · subst hbe; exact heo
  · exact ⟨u, k b u hbe q⟩
end
def trk (h : Heap) (H : Hp) : List Addr := (List.range h.objs.size).filter fun a => (H a).isSome
def hidT (h : Heap) (H : Hp) : Heap := PySem.W.hideAll h (trk h H)
theorem hidT_size (h : Heap) (H : Hp) : (hidT h H).objs.size = h.objs.size := PySem.W.hideAll_size _ _
theorem hidT_get {h : Heap} {H : Hp} {b : Addr} {o : Obj} (e : h.get? b = some o) (n : H b = none) : (hidT h H).get? b = some o :=
  PySem.W.hideAll_get _ e fun hm => by
    have q : (H b).isSome = true := (List.mem_filter.mp hm).2
    rw [n] at q; simp at q
theorem of_hidT {h : Heap} {H : Hp} {b : Addr} {o : Obj} (e : (hidT h H).get? b = some o) : h.get? b = some o ∧ H b = none := by
  have e' : h.get? b = some o := PySem.W.of_hideAll (trk h H) e
  refine ⟨e', ?_⟩
  cases q : H b with
  | none => rfl
  | some x =>
    have hm : b ∈ trk h H := List.mem_filter.mpr ⟨List.mem_range.mpr (Heap.lt_size e'), by simp [q]⟩
    have z : (hidT h H).get? b = none := PySem.W.hideAll_none (trk h H) hm
    rw [z] at e; cases e
structure Mod (K : PySem.W.Frag) (mg : Str → Option Value) (base : Heap) : Prop where
  kin : K.In base
  glob : base.Ns mainGlobals mg
  blt : ∃ mb, base.Ns builtinsNs mb ∧ ∀ x : Str, x ≠ "__name__" → mb x = bootBuiltins x
  nolimit : base.NoLimit
/-- the context: a def's body (or a comprehension's block) running. base: fixed through the whole law; s₀, H₀: the entry; outer: the frames whose slots others may change (a def's callers); stack: all frames that run;
   ex: iterators that were made ahead of the entry and are walked here (a comprehension's); fn: the names whose cells were made at the entry (a def: all; a comprehension's block: its own); calm: not within an except suite; pn: pins that every state bears; xe: what is wanted of an exception that leaves the code -/
structure Cx where
  prog : Program
  w : World
  K : PySem.W.Frag
  mg : Str → Option Value
  base : Heap
  A : Around
  N : List Str
  s₀ : Shared
  H₀ : Hp
  env : Env
  outer : List Env
  stack : List Env
  ex : List Addr
  fn : Str → Bool
  calm : Bool
  pn : List (Addr × Obj)
  xe : Value → Shared → Prop
def frs (l : List Env) : List Addr := l.filterMap (·.frame)
abbrev Cx.fs (X : Cx) : List Addr := frs X.outer
def Vis (sc : Scope) (x : Str) : Prop := sc.names.lookup x = some .local ∨ sc.names.lookup x = some .cell ∨ sc.names.lookup x = some .free
def Loc (sc : Scope) (x : Str) : Prop := sc.names.lookup x = some .local ∨ sc.names.lookup x = some .cell
def Look (env : Env) (h : Heap) (m : Str → Option Value) (x : Str) (u : Value) : Prop :=
  (env.kindOf x = some .local ∧ m x = some u) ∨ ((env.kindOf x = some .cell ∨ env.kindOf x = some .free) ∧ ∃ c, env.cells.lookup x = some c ∧ h.IsCell c (some u))
structure Cx.Ok (X : Cx) : Prop where
  mod : Mod X.K X.mg X.base
  kind : X.env.scope.kind = .function
  glob : X.env.globals = mainGlobals
  blt : X.env.builtins = builtinsNs
  above : X.s₀.heap.objs.size ≤ X.env.locals
  inj : ∀ x y c, X.env.cells.lookup x = some c → X.env.cells.lookup y = some c → x = y
  has : ∀ x, (X.env.kindOf x = some .cell ∨ X.env.kindOf x = some .free) → ∃ c, X.env.cells.lookup x = some c
  cab : ∀ x c, X.fn x = true → X.env.cells.lookup x = some c → X.s₀.heap.objs.size ≤ c
  hd : X.calm = true → X.A.handled = none
  frames : X.A.frames = some X.stack
  stk : X.stack = X.outer ∨ (X.stack = X.env :: X.outer ∧ X.env.frame = some X.env.locals)
  exf : ∀ b ∈ X.ex, b ≠ X.env.locals ∧ ∀ x c, X.env.cells.lookup x = some c → c ≠ b
  bs : ∀ b o, X.base.get? b = some o → X.s₀.heap.get? b = some o ∧ X.H₀ b = none
  bsz : X.base.objs.size ≤ X.s₀.heap.objs.size
  noex : ∀ b o, X.base.get? b = some o → b ∉ X.ex
  exfs : ∀ b ∈ X.ex, b ∉ X.fs
  funs : X.s₀.heap.FunFrames X.base X.outer
  frf : ∀ b ∈ X.fs, X.H₀ b = none
structure Inv (X : Cx) (pins : List (Addr × Obj)) (σ : List (Option V)) (H : Hp) (s : Shared) : Prop where
  ok : X.Ok
  os : s.os = X.s₀.os
  bare : AllBare s.gens
  base : Un X.fs X.ex X.H₀ H X.s₀.heap s.heap
  loc : ∃ m, s.heap.Ns X.env.locals m ∧ ∀ (i : Nat) (x : Str) (v : V), X.N[i]? = some x → σ[i]? = some (some v) → Vis X.env.scope x → ∃ u, RelV v u ∧ Look X.env s.heap m x u
  cell : ∀ x c, X.env.cells.lookup x = some c → ∃ v, s.heap.IsCell c v
  free : H X.env.locals = none
  freeC : ∀ x c, X.env.cells.lookup x = some c → H c = none
  pin : ∀ p ∈ X.pn ++ pins, s.heap.get? p.1 = some p.2 ∧ H p.1 = none ∧ p.1 ≠ X.env.locals ∧ p.1 ∉ X.fs ∧ ∀ v, p.2.data ≠ .cell v
  hok : HOk X.prog X.w H s.heap
  len : σ.length = X.N.length
section
variable {X : Cx} {pins : List (Addr × Obj)} {σ : List (Option V)} {H H' : Hp} {s : Shared} {h' : Heap}
theorem Cx.Ok.nofr (ok : X.Ok) {b : Addr} {o : Obj} (e : X.base.get? b = some o) : b ∉ X.fs := fun hb => by
  have := (ok.funs.mem hb).1
  rw [e] at this; cases this
theorem Inv.bs (I : Inv X pins σ H s) : ∀ b o, X.base.get? b = some o → s.heap.get? b = some o ∧ H b = none := fun b o e =>
  ⟨I.base.keep b o (I.ok.bs b o e).1 (I.ok.bs b o e).2 (I.ok.nofr e) (I.ok.noex b o e), I.base.free b o (I.ok.bs b o e).1 (I.ok.bs b o e).2 (I.ok.noex b o e)⟩
theorem Inv.bk (I : Inv X pins σ H s) : ∀ b o, X.base.get? b = some o → s.heap.get? b = some o := fun b o e => (I.bs b o e).1
theorem Inv.mod (I : Inv X pins σ H s) : Mod X.K X.mg X.base := I.ok.mod
theorem Inv.kIn (I : Inv X pins σ H s) : X.K.In s.heap := I.ok.mod.kin.keeps I.bk
theorem Inv.lt (I : Inv X pins σ H s) : X.env.locals < s.heap.objs.size := let ⟨_, hn, _⟩ := I.loc; hn.lt
theorem Inv.sz (I : Inv X pins σ H s) : X.s₀.heap.objs.size ≤ s.heap.objs.size := Nat.le_trans I.ok.above (Nat.le_of_lt I.lt)
theorem Inv.nofs (I : Inv X pins σ H s) {a : Addr} (h : s.heap.objs.size ≤ a) : a ∉ X.fs := fun hb => by
  obtain ⟨_, o, ho, _⟩ := I.ok.funs.mem hb
  exact absurd (Nat.lt_of_lt_of_le (Heap.lt_size ho) (Nat.le_trans I.sz h)) (Nat.lt_irrefl _)
theorem Inv.cne (I : Inv X pins σ H s) : ∀ x c, X.env.cells.lookup x = some c → c ≠ X.env.locals := fun x c e z => by
  obtain ⟨v, o, ho, hd⟩ := I.cell x c e
  obtain ⟨m, ⟨o', es, ep, ho', hd', _⟩, _⟩ := I.loc
  rw [z, ho'] at ho; cases ho; rw [hd'] at hd; cases hd
theorem Inv.funs (I : Inv X pins σ H s) : s.heap.FunFrames X.base X.outer := by
  have all : ∀ (l : List Env), (∀ b ∈ frs l, b ∈ X.fs) → X.s₀.heap.FunFrames X.base l → s.heap.FunFrames X.base l := by
    intro l
    induction l with
    | nil => intro _ _; trivial
    | cons env r ih =>
      intro hs hl
      obtain ⟨hk, ⟨L, o, hf, hn, ho, hd⟩, hr⟩ := hl
      have hL : L ∈ X.fs := hs L (by unfold frs; rw [List.filterMap_cons, hf]; exact List.mem_cons_self)
      obtain ⟨sl, e⟩ := I.base.slot L o ho (I.ok.frf L hL) hL fun z => I.ok.exfs L z hL
      exact ⟨hk, ⟨L, _, hf, hn, e, hd⟩, ih (fun b hb => hs b (by unfold frs; rw [List.filterMap_cons, hf]; exact List.mem_cons_of_mem _ hb)) hr⟩
  exact all X.outer (fun _ hb => hb) I.ok.funs
theorem Inv.stack (I : Inv X pins σ H s) : s.heap.FunFrames X.base X.stack := by
  rcases I.ok.stk with e | ⟨e, hf⟩
  · rw [e]; exact I.funs
  · rw [e]
    obtain ⟨m, hn, _⟩ := I.loc
    refine .cons (by rw [I.ok.kind]; decide) hf hn ?_ I.funs
    exact Heap.get?_none_of_le (Nat.le_trans I.ok.bsz I.ok.above)
theorem Inv.stkSub (I : Inv X pins σ H s) : ∀ b ∈ frs X.stack, b ∈ X.env.locals :: X.fs := fun b hb => by
  rcases I.ok.stk with e | ⟨e, hf⟩
  · rw [e] at hb; exact List.mem_cons_of_mem _ hb
  · rw [e] at hb
    unfold frs at hb
    rw [List.filterMap_cons, hf] at hb
    exact hb
theorem Inv.stkFree (I : Inv X pins σ H s) : ∀ b ∈ frs X.stack, H b = none := fun b hb => by
  rcases List.mem_cons.mp (I.stkSub b hb) with e | hb
  · rw [e]; exact I.free
  · obtain ⟨_, o, ho, _⟩ := I.ok.funs.mem hb
    exact I.base.free b o ho (I.ok.frf b hb) fun z => I.ok.exfs b z hb
theorem Inv.step {g' : Array GenState} {t' : Nat} {d' : Drawn} {ch : List Addr} (I : Inv X pins σ H s)
    (hch : ∀ b ∈ ch, (b ∈ X.ex ∨ X.s₀.heap.objs.size ≤ b) ∧ b ≠ X.env.locals ∧ (∀ x c, X.env.cells.lookup x = some c → c ≠ b) ∧ ∀ p ∈ X.pn ++ pins, p.1 ≠ b)
    (keep : ∀ b o, b ≠ X.env.locals → b ∉ X.fs → b ∉ ch → s.heap.get? b = some o → H b = none → h'.get? b = some o)
    (slot : ∀ b o, b ≠ X.env.locals → b ∈ X.fs → b ∉ ch → s.heap.get? b = some o → H b = none → ∃ sl, h'.get? b = some { o with slots := sl }) (free : ∀ b o, b ∉ ch → s.heap.get? b = some o → H b = none → H' b = none)
    (there : ∀ b o, b ∉ ch → s.heap.get? b = some o → ∃ o', h'.get? b = some o')
    (tups : ∀ b xs, H b = some (.tup xs) → H' b = some (.tup xs)) (frzs : ∀ b o u, H b = some (.frz o u) → H' b = some (.frz o u)) (tbls : ∀ b ps, H b = some (.tbl ps) → ∃ more, H' b = some (.tbl (ps ++ more)))
    (ns : ∀ m, s.heap.Ns X.env.locals m → h'.Ns X.env.locals m) (hok : HOk X.prog X.w H' h') (hg : AllBare g') :
    Inv X pins σ H' { s with heap := h', gens := g', drawn := d', toks := t' } := by
  have neL : ∀ b o, X.s₀.heap.get? b = some o → b ≠ X.env.locals := fun b o e => Nat.ne_of_lt (Nat.lt_of_lt_of_le (Heap.lt_size e) I.ok.above)
  have neC : ∀ b o, X.s₀.heap.get? b = some o → b ∉ X.ex → b ∉ ch := fun b o e hx hb => by
    rcases (hch b hb).1 with z | z
    · exact hx z
    · exact absurd (Nat.lt_of_lt_of_le (Heap.lt_size e) z) (Nat.lt_irrefl _)
  have cellK : ∀ x c, X.env.cells.lookup x = some c → ∀ v, s.heap.IsCell c v → h'.IsCell c v := fun x c e v ⟨o, ho, hd⟩ => by
    have nch : c ∉ ch := fun z => (hch c z).2.2.1 x c e rfl
    by_cases hc : c ∈ X.fs
    · obtain ⟨sl, q⟩ := slot c o (I.cne x c e) hc nch ho (I.freeC x c e)
      exact ⟨_, q, hd⟩
    · exact ⟨o, keep c o (I.cne x c e) hc nch ho (I.freeC x c e), hd⟩
  refine ⟨I.ok, I.os, hg, ⟨fun b o e n hb hx => ?_, fun b o e n hb hx => ?_, fun b o e n hx => ?_, fun b o e hx => ?_, fun b xs e => tups b xs (I.base.tups b xs e), fun b o xs e => frzs b o xs (I.base.frzs b o xs e), fun b ps e => ?_⟩, ?_, fun x c e => ?_, ?_, fun x c e => ?_, fun p hp => ?_, hok, I.len⟩
  · exact keep b o (neL b o e) hb (neC b o e hx) (I.base.keep b o e n hb hx) (I.base.free b o e n hx)
  · obtain ⟨sl, e1⟩ := I.base.slot b o e n hb hx
    obtain ⟨sl', e2⟩ := slot b _ (neL b o e) hb (neC b o e hx) e1 (I.base.free b o e n hx)
    exact ⟨sl', e2⟩
  · obtain ⟨o', e1⟩ := I.base.there b o e hx
    exact free b o' (neC b o e hx) e1 (I.base.free b o e n hx)
  · obtain ⟨o', e1⟩ := I.base.there b o e hx
    exact there b o' (neC b o e hx) e1
  · obtain ⟨m1, e1⟩ := I.base.tbls b ps e
    obtain ⟨m2, e2⟩ := tbls b _ e1
    exact ⟨m1 ++ m2, by rw [e2, Array.append_assoc]⟩
  · obtain ⟨m, hn, hl⟩ := I.loc
    refine ⟨m, ns m hn, fun i x v e1 e2 e3 => ?_⟩
    obtain ⟨u, r, l⟩ := hl i x v e1 e2 e3
    refine ⟨u, r, ?_⟩
    rcases l with l | ⟨k, c, e, z⟩
    · exact .inl l
    · exact .inr ⟨k, c, e, cellK x c e _ z⟩
  · obtain ⟨v, z⟩ := I.cell x c e
    exact ⟨v, cellK x c e v z⟩
  · obtain ⟨m, ⟨o, _, _, ho, _⟩, _⟩ := I.loc
    exact free _ o (fun z => (hch _ z).2.1 rfl) ho I.free
  · obtain ⟨v, o, ho, hd⟩ := I.cell x c e
    exact free c o (fun z => (hch c z).2.2.1 x c e rfl) ho (I.freeC x c e)
  · obtain ⟨e, n, ne, nf, d⟩ := I.pin p hp
    have nch : p.1 ∉ ch := fun z => (hch p.1 z).2.2.2 p hp rfl
    exact ⟨keep p.1 p.2 ne nf nch e n, free p.1 p.2 nch e n, ne, nf, d⟩
theorem Inv.un {t' : Nat} (I : Inv X pins σ H s) (u : Un X.fs [] H H' s.heap h') (hok : HOk X.prog X.w H' h') : Inv X pins σ H' { s with heap := h', toks := t' } := by
  obtain ⟨m, ⟨o, es, ep, ho, r⟩, _⟩ := id I.loc
  obtain ⟨sl, hL⟩ := u.any ho I.free (by simp)
  exact I.step (g' := s.gens) (d' := s.drawn) (ch := []) (fun _ z => nomatch z) (fun b o _ hb _ e n => u.keep b o e n hb (by simp)) (fun b o _ hb _ e n => u.slot b o e n hb (by simp)) (fun b o _ e n => u.free b o e n (by simp)) (fun b o _ e => u.there b o e (by simp)) u.tups u.frzs u.tbls (fun m' hm => by
    obtain ⟨o', es', ep', ho', r'⟩ := hm
    rw [ho] at ho'; cases ho'
    exact ⟨_, es', ep', hL, r'⟩) hok I.bare
theorem Inv.call {g' : Array GenState} {t' : Nat} {d' : Drawn} {ch : List Addr} (I : Inv X pins σ H s) (u : Un (frs X.stack) ch H H' s.heap h') (hok : HOk X.prog X.w H' h') (hg : AllBare g')
    (hch : ∀ b ∈ ch, (b ∈ X.ex ∨ X.s₀.heap.objs.size ≤ b) ∧ b ≠ X.env.locals ∧ (∀ x c, X.env.cells.lookup x = some c → c ≠ b) ∧ ∀ p ∈ X.pn ++ pins, p.1 ≠ b) :
    Inv X pins σ H' { s with heap := h', gens := g', drawn := d', toks := t' } := by
  obtain ⟨m, ⟨o, es, ep, ho, r⟩, _⟩ := id I.loc
  obtain ⟨sl, hL⟩ := u.any ho I.free fun z => (hch _ z).2.1 rfl
  exact I.step (ch := ch) hch (fun b o hL hb hc e n => u.keep b o e n (fun z => (List.mem_cons.mp (I.stkSub b z)).elim hL hb) hc) (fun b o _ _ hc e n => u.any e n hc) (fun b o hc e n => u.free b o e n hc) (fun b o hc e => u.there b o e hc) u.tups u.frzs u.tbls (fun m' hm => by
    obtain ⟨o', es', ep', ho', r'⟩ := hm
    rw [ho] at ho'; cases ho'
    exact ⟨_, es', ep', hL, r'⟩) hok hg
theorem Inv.turned {t' : Nat} {it : Addr} (I : Inv X pins σ H s) (k : ∀ b o, b ≠ it → s.heap.get? b = some o → h'.get? b = some o) (hn : H it = none) (hL : it ≠ X.env.locals)
    (h1 : it ∈ X.ex ∨ X.s₀.heap.objs.size ≤ it) (h2 : ∀ x c, X.env.cells.lookup x = some c → c ≠ it) (h3 : ∀ p ∈ X.pn ++ pins, p.1 ≠ it) : Inv X pins σ H { s with heap := h', toks := t' } := by
  have nit : ∀ b u, H b = some u → b ≠ it := fun b u e z => by rw [z, hn] at e; cases e
  refine I.step (g' := s.gens) (d' := s.drawn) (ch := [it]) (fun b hb => ?_) (fun b o _ _ hc e _ => k b o (fun z => hc (by simp [z])) e) (fun b o _ _ hc e _ => ⟨o.slots, k b o (fun z => hc (by simp [z])) e⟩) (fun _ _ _ _ n => n)
    (fun b o hc e => ⟨o, k b o (fun z => hc (by simp [z])) e⟩) (fun _ _ e => e) (fun _ _ _ e => e) (fun b ps e => ⟨#[], by rw [e]; simp⟩) (fun m hm => ?_) (fun b u e => ?_) I.bare
  · have e : b = it := by simpa using hb
    subst e
    exact ⟨h1, hL, h2, h3⟩
  · obtain ⟨o, es, ep, ho, r⟩ := hm
    exact ⟨o, es, ep, k _ o (Ne.symm hL) ho, r⟩
  · refine (I.hok b u e).stay (fun c v hc q => k c v ?_ q) (fun _ q => q) fun _ _ q => q
    rcases hc with z | z
    · rw [z]; exact nit b u e
    · exact nit c _ z
theorem Inv.tok (I : Inv X pins σ H s) (t : Nat) : Inv X pins σ H { s with toks := t } := I.un (h' := s.heap) (t' := t) Un.refl I.hok
theorem Inv.kept {t' : Nat} (I : Inv X pins σ H s) (k : ∀ b u, s.heap.get? b = some u → h'.get? b = some u) : Inv X pins σ H { s with heap := h', toks := t' } := I.un (Un.kept k) (I.hok.kept k)
theorem Inv.laid {a : Addr} {o : HO} {t' : Nat} (I : Inv X pins σ H s) (k : ∀ b u, s.heap.get? b = some u → h'.get? b = some u) (hp : s.heap.objs.size ≤ a) (new : ObjOk X.prog X.w (upd H a o) h' a o) :
    Inv X pins σ (upd H a o) { s with heap := h', toks := t' } := I.un (Un.laid k hp (I.hok.fresh hp)) (I.hok.laid k hp new)
theorem Inv.write {x e : Addr} {o : HO} {t' : Nat} (I : Inv X pins σ H s) (mu : Mut (H x)) (he : e = x ∨ H e = some (.own x)) (k : ∀ b u, b ≠ e → s.heap.get? b = some u → h'.get? b = some u) (heo : ∃ u, h'.get? e = some u)
    (new : ObjOk X.prog X.w (upd H x o) h' x o) : Inv X pins σ (upd H x o) { s with heap := h', toks := t' } := I.un (Un.write mu he k heo) (I.hok.write mu he k heo new)
theorem Inv.pins_of {pins' : List (Addr × Obj)} (I : Inv X pins σ H s) (h : ∀ p ∈ pins', s.heap.get? p.1 = some p.2 ∧ H p.1 = none ∧ p.1 ≠ X.env.locals ∧ p.1 ∉ X.fs ∧ ∀ v, p.2.data ≠ .cell v) : Inv X pins' σ H s :=
  ⟨I.ok, I.os, I.bare, I.base, I.loc, I.cell, I.free, I.freeC, fun p hp => (List.mem_append.mp hp).elim (fun z => I.pin p (List.mem_append_left _ z)) (h p), I.hok, I.len⟩
theorem nodup_ix {N : List Str} (hN : N.Nodup) {i j : Nat} {x : Str} (a : N[i]? = some x) (b : N[j]? = some x) : i = j := by
  obtain ⟨h1, e1⟩ := List.getElem?_eq_some_iff.mp a
  obtain ⟨h2, e2⟩ := List.getElem?_eq_some_iff.mp b
  exact (List.getElem_inj hN).mp (e1.trans e2.symm)
theorem store_ok2 {M : Model} {A : Around} {E : Value → Shared → Prop} {i : Nat} {x : Str} {v : V} {u : Value} {Q : Unit → Shared → Prop} (I : Inv X pins σ H s) (hN : X.N.Nodup) (hi : X.N[i]? = some x) (hx : Loc X.env.scope x) (r : RelV v u)
    (h : ∀ s', Inv X pins (σ.set i (some v)) H s' → (∃ a, Heap.SameBut a s.heap s'.heap ∧ (a = X.env.locals ∨ X.env.cells.lookup x = some a)) → Q () s') (hf : X.fn x = true ∨ X.env.scope.names.lookup x = some .local := by first | exact .inl rfl | exact .inr rfl | assumption) : wpAny M A (storeName X.env x u) Q E s := by
  obtain ⟨m, hn, hl⟩ := id I.loc
  have hcls : (X.env.scope.kind == .class || (X.env.scope.kind == .module && X.env.locals != X.env.globals)) = false := by rw [I.ok.kind]; rfl
  have hiσ : i < σ.length := by rw [I.len]; exact (List.getElem?_eq_some_iff.mp hi).1
  have cne := I.cne
  have tracked : ∀ {a : Addr} {h' : Heap}, (∃ o, s.heap.get? a = some o ∧ H a = none) → Heap.SameBut a s.heap h' → HOk X.prog X.w H h' := fun {a h'} ha hs b ob e => by
    obtain ⟨_, _, hfree⟩ := ha
    refine (I.hok b ob e).stay (fun c w' hc q => (hs.2 c ?_).trans q) (fun _ q => q) fun _ _ q => q
    rintro rfl
    rcases hc with rfl | hc
    · rw [hfree] at e; cases e
    · rw [hfree] at hc; cases hc
  rcases hx with hk | hk
  · refine wpAny_storeName_local hk hn (fun h' hn' hs => ?_) hcls
    obtain ⟨oL, _, _, hoL, _⟩ := id hn
    refine h _ ⟨I.ok, I.os, I.bare, ⟨fun b o e n hb hx => ?_, fun b o e n hb hx => ?_, I.base.free, fun b o e hx => ?_, I.base.tups, I.base.frzs, I.base.tbls⟩, ⟨_, hn', fun j y v' e1 e2 e3 => ?_⟩, fun y c e => ?_, I.free, I.freeC, fun p hp => ?_, tracked ⟨oL, hoL, I.free⟩ hs, by simpa using I.len⟩ ⟨_, hs, .inl rfl⟩
    · exact (hs.2 b (Nat.ne_of_lt (Nat.lt_of_lt_of_le (Heap.lt_size e) I.ok.above))).trans (I.base.keep b o e n hb hx)
    · obtain ⟨sl, e1⟩ := I.base.slot b o e n hb hx
      exact ⟨sl, (hs.2 b (Nat.ne_of_lt (Nat.lt_of_lt_of_le (Heap.lt_size e) I.ok.above))).trans e1⟩
    · obtain ⟨o', e1⟩ := I.base.there b o e hx
      exact ⟨o', (hs.2 b (Nat.ne_of_lt (Nat.lt_of_lt_of_le (Heap.lt_size e) I.ok.above))).trans e1⟩
    · by_cases hj : j = i
      · subst hj
        rw [hi] at e1; cases e1
        rw [List.getElem?_set_self hiσ] at e2
        cases e2
        exact ⟨u, r, .inl ⟨hk, by simp⟩⟩
      · rw [List.getElem?_set_ne (Ne.symm hj)] at e2
        obtain ⟨u', r', q⟩ := hl j y v' e1 e2 e3
        refine ⟨u', r', ?_⟩
        rcases q with ⟨k, e⟩ | ⟨k, c, e, z⟩
        · refine .inl ⟨k, ?_⟩
          have : y ≠ x := fun e => hj (nodup_ix hN e1 (e ▸ hi))
          simp [this, e]
        · exact .inr ⟨k, c, e, z.sameBut hs (cne y c e)⟩
    · obtain ⟨w', z⟩ := I.cell y c e
      exact ⟨w', z.sameBut hs (cne y c e)⟩
    · obtain ⟨e, n, ne, nf, d⟩ := I.pin p hp
      exact ⟨(hs.2 p.1 ne).trans e, n, ne, nf, d⟩
  · have hfn : X.fn x = true := by
      rcases hf with z | z
      · exact z
      · rw [z] at hk; cases hk
    obtain ⟨c, hc⟩ := I.ok.has x (.inl hk)
    obtain ⟨w', z⟩ := I.cell x c hc
    refine wpAny_storeName_cell I.ok.kind hk hc z (fun h' hc' hs => ?_)
    obtain ⟨oc, hoc, hocd⟩ := id z
    refine h { s with heap := h' } ⟨I.ok, I.os, I.bare, ⟨fun b o e n hb hx => ?_, fun b o e n hb hx => ?_, I.base.free, fun b o e hx => ?_, I.base.tups, I.base.frzs, I.base.tbls⟩, ⟨m, hn.sameBut hs (Ne.symm (cne x c hc)), fun j y v' e1 e2 e3 => ?_⟩, fun y c' e => ?_, I.free, I.freeC, fun p hp => ?_, tracked ⟨oc, hoc, I.freeC x c hc⟩ hs, by simpa using I.len⟩ ⟨c, hs, .inr hc⟩
    · exact (hs.2 b (Nat.ne_of_lt (Nat.lt_of_lt_of_le (Heap.lt_size e) (I.ok.cab x c hfn hc)))).trans (I.base.keep b o e n hb hx)
    · obtain ⟨sl, e1⟩ := I.base.slot b o e n hb hx
      exact ⟨sl, (hs.2 b (Nat.ne_of_lt (Nat.lt_of_lt_of_le (Heap.lt_size e) (I.ok.cab x c hfn hc)))).trans e1⟩
    · obtain ⟨o', e1⟩ := I.base.there b o e hx
      exact ⟨o', (hs.2 b (Nat.ne_of_lt (Nat.lt_of_lt_of_le (Heap.lt_size e) (I.ok.cab x c hfn hc)))).trans e1⟩
    · by_cases hj : j = i
      · subst hj
        rw [hi] at e1; cases e1
        rw [List.getElem?_set_self hiσ] at e2
        cases e2
        exact ⟨u, r, .inr ⟨.inl hk, c, hc, hc'⟩⟩
      · rw [List.getElem?_set_ne (Ne.symm hj)] at e2
        obtain ⟨u', r', q⟩ := hl j y v' e1 e2 e3
        refine ⟨u', r', ?_⟩
        rcases q with q | ⟨k, c', e, z'⟩
        · exact .inl q
        · refine .inr ⟨k, c', e, z'.sameBut hs ?_⟩
          rintro rfl
          exact hj (nodup_ix hN e1 (I.ok.inj _ _ _ e hc ▸ hi))
    · by_cases hcc : c' = c
      · subst hcc; exact ⟨_, hc'⟩
      · obtain ⟨w2, z2⟩ := I.cell y c' e
        exact ⟨w2, z2.sameBut hs hcc⟩
    · obtain ⟨e, n, ne, nf, d⟩ := I.pin p hp
      refine ⟨(hs.2 p.1 ?_).trans e, n, ne, nf, d⟩
      intro q
      rw [q, hoc] at e
      have q' : oc = p.2 := Option.some.inj e
      exact d w' (by rw [← q']; exact hocd)
theorem store_ok {M : Model} {A : Around} {E : Value → Shared → Prop} {i : Nat} {x : Str} {v : V} {u : Value} {Q : Unit → Shared → Prop} (I : Inv X pins σ H s) (hN : X.N.Nodup) (hi : X.N[i]? = some x) (hx : Loc X.env.scope x) (r : RelV v u)
    (h : ∀ s', Inv X pins (σ.set i (some v)) H s' → Q () s') (hf : X.fn x = true ∨ X.env.scope.names.lookup x = some .local := by first | exact .inl rfl | exact .inr rfl | assumption) : wpAny M A (storeName X.env x u) Q E s :=
  store_ok2 I hN hi hx r (fun s' I' _ => h s' I') hf
theorem Inv.call' {s' : Shared} {ch : List Addr} (I : Inv X pins σ H s) (ho : s'.os = s.os) (u : Un (frs X.stack) ch H H' s.heap s'.heap) (hok : HOk X.prog X.w H' s'.heap) (hg : AllBare s'.gens)
    (hch : ∀ b ∈ ch, (b ∈ X.ex ∨ X.s₀.heap.objs.size ≤ b) ∧ b ≠ X.env.locals ∧ (∀ x c, X.env.cells.lookup x = some c → c ≠ b) ∧ ∀ p ∈ X.pn ++ pins, p.1 ≠ b) : Inv X pins σ H' s' := by
  obtain ⟨h', g', d', t', o'⟩ := s'
  have e : o' = s.os := ho
  subst e
  exact I.call (g' := g') (t' := t') (d' := d') u hok hg hch
end
abbrev XK := Value → Option Addr → Hp → Prop
abbrev St := List (Option V)
abbrev VK := V → Hp → Prop
abbrev TE := St → Hp → VK → Prop
abbrev TT := St → Hp → (Bool → Hp → Prop) → Prop
abbrev TA := St → Hp → (List V → Hp → Prop) → Prop
structure Ends where
  nx : St → Hp → Prop
  rt : VK
  bk : St → Hp → Prop := fun _ _ => False
  ct : St → Hp → Prop := fun _ _ => False
abbrev TS := Ends → St → Hp → Prop
def EP (X : Cx) (pins : List (Addr × Obj)) (σ : St) (Q : VK) (u : Value) (s' : Shared) : Prop := ∃ v H', Inv X pins σ H' s' ∧ RelV v u ∧ Q v H'
def TP (X : Cx) (pins : List (Addr × Obj)) (σ : St) (Q : Bool → Hp → Prop) (b : Bool) (s' : Shared) : Prop := ∃ H', Inv X pins σ H' s' ∧ Q b H'
def AP (X : Cx) (pins : List (Addr × Obj)) (σ : St) (Q : List V → Hp → Prop) (us : List Value) (s' : Shared) : Prop := ∃ vs H', Inv X pins σ H' s' ∧ Vals vs us ∧ Q vs H'
def SP (X : Cx) (pins : List (Addr × Obj)) (D : Ends) (f : Flow) (s' : Shared) : Prop :=
  match f with
  | .next => ∃ σ' H', Inv X pins σ' H' s' ∧ D.nx σ' H'
  | .brk => ∃ σ' H', Inv X pins σ' H' s' ∧ D.bk σ' H'
  | .cont => ∃ σ' H', Inv X pins σ' H' s' ∧ D.ct σ' H'
  | .ret u => ∃ v σ' H', Inv X pins σ' H' s' ∧ RelV v u ∧ D.rt v H'
def PE (X : Cx) (e : Expr) (t : TE) : Prop :=
  ∀ (pins : List (Addr × Obj)) (s : Shared) (σ : St) (H : Hp) (Q : VK), Inv X pins σ H s → t σ H Q → wpAny (model X.prog X.w) X.A (eval e X.env) (EP X pins σ Q) X.xe s
def PT (X : Cx) (e : Expr) (t : TT) : Prop :=
  ∀ (pins : List (Addr × Obj)) (s : Shared) (σ : St) (H : Hp) (Q : Bool → Hp → Prop), Inv X pins σ H s → t σ H Q → wpAny (model X.prog X.w) X.A (isTrue e X.env (eval e X.env)) (TP X pins σ Q) X.xe s
def PW (X : Cx) (e : Expr) (t : TT) : Prop :=
  ∀ (whole : Sem Value) (pins : List (Addr × Obj)) (s : Shared) (σ : St) (H : Hp) (Q : Bool → Hp → Prop), Inv X pins σ H s → t σ H Q → wpAny (model X.prog X.w) X.A (isTrue e X.env whole) (TP X pins σ Q) X.xe s
theorem PW.pt {X : Cx} {e : Expr} {t : TT} (h : PW X e t) : PT X e t := h _
def PA (X : Cx) (es : List Expr) (t : TA) : Prop :=
  ∀ (pos : Pos) (pins : List (Addr × Obj)) (s : Shared) (σ : St) (H : Hp) (Q : List V → Hp → Prop), Inv X pins σ H s → t σ H Q → wpAny (model X.prog X.w) X.A (spliced (backTo pos (starEach es X.env))) (AP X pins σ Q) X.xe s
def PS (X : Cx) (st : Stmt) (t : TS) : Prop :=
  ∀ (pins : List (Addr × Obj)) (s : Shared) (σ : St) (H : Hp) (D : Ends), Inv X pins σ H s → t D σ H → wpAny (model X.prog X.w) X.A (exec st X.env) (SP X pins D) X.xe s
def PSs (X : Cx) (st : List Stmt) (t : TS) : Prop :=
  ∀ (pins : List (Addr × Obj)) (s : Shared) (σ : St) (H : Hp) (D : Ends), Inv X pins σ H s → t D σ H → wpAny (model X.prog X.w) X.A (execs st X.env) (SP X pins D) X.xe s
theorem thn {α : Type} {t : Sem α} {Q Q' : α → Shared → Prop} {M : Model} {A : Around} {E : Value → Shared → Prop} {s : Shared} (h : wpAny M A t Q E s) (hQ : ∀ a s, Q a s → Q' a s) : wpAny M A t Q' E s := wpAny_mono h hQ fun _ _ x => x
section
variable {X : Cx}
def tVar (i : Nat) : TE := fun σ H Q => ∃ v, σ[i]? = some (some v) ∧ Q v H
def tC (v : V) : TE := fun _ H Q => Q v H
theorem pe_var {i : Nat} {x : Str} {pos : Pos} (hN : X.N[i]? = some x) (hv : Vis X.env.scope x) (hd : (x == ("__debug__" : Str)) = false := by decide) (hcd : (x == ("__classdict__" : Str)) = false := by decide) : PE X (.Name x pos) (tVar i) := by
  intro pins s σ H Q I h
  obtain ⟨v, e, h⟩ := h
  obtain ⟨m, hn, hl⟩ := I.loc
  obtain ⟨u, r, l⟩ := hl i x v hN e hv
  have fin : EP X pins σ Q u s := ⟨v, H, I, r, h⟩
  rcases l with ⟨hk, hm⟩ | ⟨hk, c, hc, hcell⟩
  · exact wpAny_Name (wpAny_loadName_local I.ok.kind hk hn hm fin) hd
  · rcases hk with hk | hk
    · exact wpAny_Name (wpAny_loadName_cell I.ok.kind hk hc hcell fin) hd
    · exact wpAny_Name (wpAny_loadName_free I.ok.kind hk hc hcell fin hcd) hd
theorem pe_int {i j pos} : PE X (.Constant (.int i) j pos) (tC (.int i)) := fun _ _ _ H _ I h => wpAny_Constant_int ⟨.int i, H, I.tok _, ⟨_, rfl⟩, h⟩
theorem pe_bl {b j pos} : PE X (.Constant (.bool b) j pos) (tC (.bl b)) := fun _ _ _ H _ I h => Constant_bool ⟨.bl b, H, I, rfl, h⟩
theorem pe_non {j pos} : PE X (.Constant .none j pos) (tC .non) := fun _ _ _ H _ I h => Constant_none ⟨.non, H, I, rfl, h⟩
theorem pe_str {x j pos} : PE X (.Constant (.str x) j pos) (tC (.str x)) := fun _ _ _ H _ I h => Calls.Constant_str ⟨.str x, H, I.tok _, ⟨_, rfl⟩, h⟩
def Gl (X : Cx) (x : Str) : Prop := X.env.kindOf x = some .globalImplicit
theorem ld_glob {E : Value → Shared → Prop} {pins : List (Addr × Obj)} {s : Shared} {σ : St} {H : Hp} {x : Str} {u : Value} {pos : Pos} {Q : Value → Shared → Prop} (I : Inv X pins σ H s) (hg : Gl X x) (hm : X.mg x = some u) (h : Q u s)
    (hd : (x == ("__debug__" : Str)) = false := by decide) : wpAny (model X.prog X.w) X.A (eval (.Name x pos) X.env) Q E s :=
  Calls.Name_function_global I.ok.kind hg (Calls.loadGlobal_global (by rw [I.ok.glob]; exact I.mod.glob.keeps I.bk) hm h) hd
theorem ld_blt {E : Value → Shared → Prop} {pins : List (Addr × Obj)} {s : Shared} {σ : St} {H : Hp} {x : Str} {u : Value} {pos : Pos} {Q : Value → Shared → Prop} (I : Inv X pins σ H s) (hg : Gl X x) (hm : X.mg x = none) (hv : bootBuiltins x = some u) (h : Q u s)
    (hn : x ≠ "__name__" := by decide) (hd : (x == ("__debug__" : Str)) = false := by decide) : wpAny (model X.prog X.w) X.A (eval (.Name x pos) X.env) Q E s := by
  obtain ⟨mb, h1, h2⟩ := I.mod.blt
  exact Calls.Name_function_global I.ok.kind hg (Calls.loadGlobal_builtin (by rw [I.ok.glob]; exact I.mod.glob.keeps I.bk) hm (by rw [I.ok.blt]; exact h1.keeps I.bk) ((h2 x hn).trans hv) h) hd
theorem pe_glob {x : Str} {v : V} {u : Value} {pos : Pos} (hg : Gl X x) (hm : X.mg x = some u) (r : RelV v u) (hd : (x == ("__debug__" : Str)) = false := by decide) : PE X (.Name x pos) (tC v) :=
  fun _ _ _ H _ I h => ld_glob I hg hm ⟨v, H, I, r, h⟩ hd
theorem pe_bltn {x : Str} {v : V} {u : Value} {pos : Pos} (hg : Gl X x) (hm : X.mg x = none) (hv : bootBuiltins x = some u) (r : RelV v u) (hn : x ≠ "__name__" := by decide) (hd : (x == ("__debug__" : Str)) = false := by decide) : PE X (.Name x pos) (tC v) :=
  fun _ _ _ H _ I h => ld_blt I hg hm hv ⟨v, H, I, r, h⟩ hn hd
variable {a b : Expr} {ta tb : TE} {pos : Pos}
def tB (t : TE) : TT := fun σ H Q => t σ H fun x H1 => ∃ c, x = .bl c ∧ Q c H1
theorem pt_val {e : Expr} {t : TE} (h : PE X e t) (he : ∀ whole, isTrue e X.env whole = (do let v ← whole; standAt e.pos; holding [v] (truthy v)) := by intro _; rfl) : PT X e (tB t) := by
  intro pins s σ H Q I hw
  refine isTrue_plain (thn (h pins s σ H _ I hw) fun v s1 ⟨x, H1, I1, r1, q1⟩ => ?_) (he _)
  obtain ⟨d, rfl, q⟩ := q1
  cases r1
  exact wpAny_truthy_bool ⟨H1, I1, q⟩
variable {tA tB' : TT} {rest : List Expr}
def tAnd (t u : TT) : TT := fun σ H Q => t σ H fun c H1 => if c = true then u σ H1 Q else Q false H1
def tOr (t u : TT) : TT := fun σ H Q => t σ H fun c H1 => if c = true then Q true H1 else u σ H1 Q
def tNot (t : TT) : TT := fun σ H Q => t σ H fun c H1 => Q (!c) H1
theorem pw_and1 (ha : PT X a tA) : PW X (.BoolOp .And [a] pos) tA := by
  intro wh pins s σ H Q I h
  refine isTrue_and (thn (ha pins s σ H Q I h) fun c s1 e => ?_)
  cases c with
  | true => exact isTrue_and_nil e
  | false => exact e
theorem pw_or1 (ha : PT X a tA) : PW X (.BoolOp .Or [a] pos) tA := by
  intro wh pins s σ H Q I h
  refine isTrue_or (thn (ha pins s σ H Q I h) fun c s1 e => ?_)
  cases c with
  | false => exact isTrue_or_nil e
  | true => exact e
theorem pw_and (ha : PT X a tA) (hb : PW X (.BoolOp .And (b :: rest) pos) tB') : PW X (.BoolOp .And (a :: b :: rest) pos) (tAnd tA tB') := by
  intro wh pins s σ H Q I h
  refine isTrue_and (thn (ha pins s σ H _ I h) fun c s1 ⟨H1, I1, q1⟩ => ?_)
  cases c with
  | true => exact hb wh pins s1 σ H1 Q I1 q1
  | false => exact ⟨H1, I1, q1⟩
theorem pw_or (ha : PT X a tA) (hb : PW X (.BoolOp .Or (b :: rest) pos) tB') : PW X (.BoolOp .Or (a :: b :: rest) pos) (tOr tA tB') := by
  intro wh pins s σ H Q I h
  refine isTrue_or (thn (ha pins s σ H _ I h) fun c s1 ⟨H1, I1, q1⟩ => ?_)
  cases c with
  | true => exact ⟨H1, I1, q1⟩
  | false => exact hb wh pins s1 σ H1 Q I1 q1
theorem pt_not (ha : PT X a tA) : PT X (.UnaryOp .Not a pos) (tNot tA) := by
  intro pins s σ H Q I h
  exact isTrue_not (ha pins s σ H (fun c H1 => Q (!c) H1) I h)
def tAndV (ta tb : TE) : TE := fun σ H Q => ta σ H fun x H1 => ∃ c, x = .bl c ∧ if c = true then tb σ H1 Q else Q (.bl false) H1
def tNotV (ta : TE) : TE := fun σ H Q => ta σ H fun x H1 => ∃ c, x = .bl c ∧ Q (.bl (!c)) H1
theorem pe_one {op} {t : TE} (h : PE X a t) : PE X (.BoolOp op [a] pos) t := fun pins s σ H Q I hw => BoolOp_one (h pins s σ H Q I hw)
theorem pe_and (ha : PE X a ta) (hb : PE X (.BoolOp .And (b :: rest) pos) tb) : PE X (.BoolOp .And (a :: b :: rest) pos) (tAndV ta tb) := by
  intro pins s σ H Q I h
  refine BoolOp_and (thn (ha pins s σ H _ I h) fun v s1 ⟨x, H1, I1, r1, q1⟩ => ?_)
  obtain ⟨c, rfl, q1⟩ := q1
  cases r1
  refine wpAny_truthy_bool ?_
  cases c with
  | true => exact hb pins s1 σ H1 Q I1 q1
  | false => exact ⟨.bl false, H1, I1, rfl, q1⟩
theorem pe_not (ha : PE X a ta) : PE X (.UnaryOp .Not a pos) (tNotV ta) := by
  intro pins s σ H Q I h
  refine UnaryOp_ (thn (ha pins s σ H _ I h) fun v s1 ⟨x, H1, I1, r1, q1⟩ => ?_)
  obtain ⟨c, rfl, q1⟩ := q1
  cases r1
  exact not_of (wpAny_truthy_bool ⟨.bl (!c), H1, I1, rfl, q1⟩)
end
def SqL (K : PySem.W.Frag) (H : Hp) (a : Addr) (xs : List V) : Prop :=
  Rd H a (.lst xs) ∨
    ∃ (o : Obj) (its : Array Value) (n : Nat), K.lookup a = some o ∧ o.cls = .type "list" ∧ o.dict = none ∧ o.data = .seq its n ∧ its.size ≤ sizeLine ∧ Vals xs its.toList
def SqT (K : PySem.W.Frag) (H : Hp) (a : Addr) (xs : List V) : Prop :=
  Rd H a (.tup xs) ∨
    ∃ (o : Obj) (its : Array Value) (n : Nat), K.lookup a = some o ∧ o.cls = .type "tuple" ∧ o.data = .seq its n ∧ its.size ≤ sizeLine ∧ Vals xs its.toList
def absV : Value → Option V
  | .none => some .non
  | .bool b => some (.bl b)
  | .int i _ => some (.int i)
  | .str x _ => some (.str x)
  | .bytes b _ => some (.byt b)
  | .float b _ => some (.flt b)
  | .ref a => some (.ref a)
  | .type n => some (.ty n)
  | _ => none
theorem RelV.abs {x : V} {u : Value} (r : RelV x u) : absV u = some x := by
  cases x with
  | non => cases r; rfl
  | bl _ => cases r; rfl
  | int _ => obtain ⟨t, rfl⟩ := r; rfl
  | str _ => obtain ⟨t, rfl⟩ := r; rfl
  | byt _ => obtain ⟨t, rfl⟩ := r; rfl
  | flt _ => obtain ⟨t, rfl⟩ := r; rfl
  | ref _ => cases r; rfl
  | ty _ => cases r; rfl
theorem RelV.inj {x y : V} {u : Value} (r : RelV x u) (q : RelV y u) : x = y := Option.some.inj (r.abs.symm.trans q.abs)
theorem Vals.inj : ∀ {xs ys : List V} {us : List Value}, Vals xs us → Vals ys us → xs = ys
  | _, _, _, .nil, .nil => rfl
  | _, _, _, .cons r t, .cons r' t' => by rw [r.inj r', Vals.inj t t']
section
variable {X : Cx} {pins : List (Addr × Obj)} {σ : St} {H : Hp} {s : Shared} {a : Addr} {xs ys : List V}
theorem SqL.of {K : PySem.W.Frag} (h : H a = some (.lst xs)) : SqL K H a xs := .inl (.inl h)
theorem SqT.of {K : PySem.W.Frag} (h : H a = some (.tup xs)) : SqT K H a xs := .inl (.inl h)
theorem Inv.list (I : Inv X pins σ H s) (h : SqL X.K H a xs) : ∃ its : List Value, Vals xs its ∧ PlainL s.heap a its.toArray ∧ xs.length ≤ sizeLine := by
  rcases h with h | ⟨o, its, n, hk, hc, hd, hs, hz, r⟩
  · obtain ⟨z, its, n, r, e⟩ := h.ok I.hok
    exact ⟨its, r, ⟨_, n, e, rfl, rfl, rfl⟩, z⟩
  · refine ⟨its.toList, r, ⟨o, n, I.kIn a o hk, hc, hd, by simpa using hs⟩, ?_⟩
    have e := r.length
    simp only [Array.length_toList] at e
    omega
theorem Inv.tuple (I : Inv X pins σ H s) (h : SqT X.K H a xs) : ∃ its : List Value, Vals xs its ∧ IsTup s.heap a its.toArray ∧ xs.length ≤ sizeLine := by
  rcases h with h | ⟨o, its, n, hk, hc, hs, hz, r⟩
  · obtain ⟨z, its, r, p⟩ := h.ok I.hok
    exact ⟨its, r, p, z⟩
  · refine ⟨its.toList, r, ⟨o, I.kIn a o hk, hc, n, by simpa using hs⟩, ?_⟩
    have e := r.length
    simp only [Array.length_toList] at e
    omega
theorem Inv.list_inj (I : Inv X pins σ H s) (h : SqL X.K H a xs) (h' : SqL X.K H a ys) : xs = ys := by
  obtain ⟨its, r, ⟨o, n, e, _, _, d⟩, _⟩ := I.list h
  obtain ⟨its', r', ⟨o', n', e', _, _, d'⟩, _⟩ := I.list h'
  rw [e] at e'; cases e'
  rw [d] at d'
  injection d' with d1 _
  have : its = its' := by simpa using congrArg Array.toList d1
  subst this
  exact r.inj r'
theorem Inv.tuple_inj (I : Inv X pins σ H s) (h : SqT X.K H a xs) (h' : SqT X.K H a ys) : xs = ys := by
  obtain ⟨its, r, ⟨o, e, _, n, d⟩, _⟩ := I.tuple h
  obtain ⟨its', r', ⟨o', e', _, n', d'⟩, _⟩ := I.tuple h'
  rw [e] at e'; cases e'
  rw [d] at d'
  injection d' with d1 _
  have : its = its' := by simpa using congrArg Array.toList d1
  subst this
  exact r.inj r'
end
abbrev Cx.wish (X : Cx) (E : Value → Shared → Prop) : Cx := { X with xe := E }
abbrev Cx.nox (X : Cx) : Cx := X.wish fun _ _ => False
theorem Cx.Ok.wish {X : Cx} (ok : X.Ok) (E : Value → Shared → Prop) : (X.wish E).Ok :=
  ⟨ok.mod, ok.kind, ok.glob, ok.blt, ok.above, ok.inj, ok.has, ok.cab, ok.hd, ok.frames, ok.stk, ok.exf, ok.bs, ok.bsz, ok.noex, ok.exfs, ok.funs, ok.frf⟩
theorem Cx.Ok.unwish {X : Cx} {E : Value → Shared → Prop} (ok : (X.wish E).Ok) : X.Ok :=
  ⟨ok.mod, ok.kind, ok.glob, ok.blt, ok.above, ok.inj, ok.has, ok.cab, ok.hd, ok.frames, ok.stk, ok.exf, ok.bs, ok.bsz, ok.noex, ok.exfs, ok.funs, ok.frf⟩
section
variable {X : Cx} {pins : List (Addr × Obj)} {σ : St} {H : Hp} {s : Shared} {E : Value → Shared → Prop}
theorem Inv.wish (I : Inv X pins σ H s) (E : Value → Shared → Prop) : Inv (X.wish E) pins σ H s := ⟨I.ok.wish E, I.os, I.bare, I.base, I.loc, I.cell, I.free, I.freeC, I.pin, I.hok, I.len⟩
theorem Inv.unwish (I : Inv (X.wish E) pins σ H s) : Inv X pins σ H s := ⟨I.ok.unwish, I.os, I.bare, I.base, I.loc, I.cell, I.free, I.freeC, I.pin, I.hok, I.len⟩
theorem SP.unwish {D : Ends} {f : Flow} {s' : Shared} (h : SP (X.wish E) pins D f s') : SP X pins D f s' := by
  cases f with
  | next => obtain ⟨σ', H', I, q⟩ := h; exact ⟨σ', H', I.unwish, q⟩
  | brk => obtain ⟨σ', H', I, q⟩ := h; exact ⟨σ', H', I.unwish, q⟩
  | cont => obtain ⟨σ', H', I, q⟩ := h; exact ⟨σ', H', I.unwish, q⟩
  | ret u => obtain ⟨v, σ', H', I, r, q⟩ := h; exact ⟨v, σ', H', I.unwish, r, q⟩
theorem PE.nox {e : Expr} {t : TE} (h : PE X.nox e t) : PE X e t := fun pins s σ H Q I hw =>
  wpAny_mono (h pins s σ H Q (I.wish _) hw) (fun _ _ ⟨v, H', I', r, q⟩ => ⟨v, H', I'.unwish, r, q⟩) fun _ _ z => False.elim z
theorem PT.nox {e : Expr} {t : TT} (h : PT X.nox e t) : PT X e t := fun pins s σ H Q I hw =>
  wpAny_mono (h pins s σ H Q (I.wish _) hw) (fun _ _ ⟨H', I', q⟩ => ⟨H', I'.unwish, q⟩) fun _ _ z => False.elim z
theorem PSs.nox {st : List Stmt} {t : TS} (h : PSs X.nox st t) : PSs X st t := fun pins s σ H D I hw =>
  wpAny_mono (h pins s σ H D (I.wish _) hw) (fun _ _ q => q.unwish) fun _ _ z => False.elim z
end
section
variable {X : Cx} {st : Stmt} {rest : List Stmt} {t u : TS} {e : Expr} {te : TE} {pos : Pos}
def tNext : TS := fun D σ H => D.nx σ H
def tSeq (t u : TS) : TS := fun D σ H => t { D with nx := u D } σ H
theorem pss_nil : PSs X [] tNext := fun _ _ σ H _ I h => wpAny_execs_nil ⟨σ, H, I, h⟩
theorem pss_cons (h1 : PS X st t) (h2 : PSs X rest u) : PSs X (st :: rest) (tSeq t u) := by
  intro pins s σ H D I h
  refine wpAny_execs_cons (thn (h1 pins s σ H { D with nx := u D } I h) fun f s1 q => ?_)
  cases f with
  | next =>
    obtain ⟨σ', H', I', q⟩ := q
    exact h2 pins s1 σ' H' D I' q
  | ret v => exact q
  | brk => exact q
  | cont => exact q
theorem pss_one (h1 : PS X st t) : PSs X [st] t := by
  intro pins s σ H D I h
  refine wpAny_execs_cons (thn (h1 pins s σ H D I h) fun f s1 q => ?_)
  cases f with
  | next => exact wpAny_execs_nil q
  | ret v => exact q
  | brk => exact q
  | cont => exact q
theorem Inv.quiet {pins : List (Addr × Obj)} {σ : St} {H : Hp} {s : Shared} (I : Inv X pins σ H s) : interactive X.env = false := by simp [interactive, I.ok.kind]
def tDrop (te : TE) : TS := fun D σ H => te σ H fun _ H1 => D.nx σ H1
theorem ps_expr (he : PE X e te) (hs : swapsWith e none pos.line X.env = pure false := by rfl) : PS X (.Expr e pos) (tDrop te) := by
  intro pins s σ H D I h
  exact wpAny_Expr_any (thn (he pins s σ H _ I h) fun v s1 ⟨x, H1, I1, r1, q1⟩ => ⟨σ, H1, I1, q1⟩) I.quiet hs
def tRet (te : TE) : TS := fun D σ H => te σ H D.rt
theorem ps_ret (he : PE X e te) : PS X (.Return (some e) pos) (tRet te) := by
  intro pins s σ H D I h
  exact wpAny_Return_some (thn (he pins s σ H _ I h) fun v s1 ⟨x, H1, I1, r1, q1⟩ => ⟨x, σ, H1, I1, r1, q1⟩)
def tIfS (c : TT) (t u : TS) : TS := fun D σ H => c σ H fun b H1 => if b = true then t D σ H1 else u D σ H1
theorem ps_if {c : Expr} {a b : List Stmt} {tc : TT} (hc : PT X c tc) (ha : PSs X a t) (hb : PSs X b u) : PS X (.If c a b pos) (tIfS tc t u) := by
  intro pins s σ H D I h
  refine wpAny_If (thn (hc pins s σ H _ I h) fun d s1 ⟨H1, I1, q1⟩ => ?_)
  cases d with
  | true => exact ha pins s1 σ H1 D I1 q1
  | false => exact hb pins s1 σ H1 D I1 q1
def tNever : TS := fun _ _ _ => False
theorem pss_never {sts : List Stmt} : PSs X sts tNever := fun _ _ _ _ _ _ h => h.elim
end
abbrev TG := V → St → Hp → (St → Hp → Prop) → Prop
abbrev TGs := List V → St → Hp → (St → Hp → Prop) → Prop
def PG (X : Cx) (target : Expr) (t : TG) : Prop :=
  ∀ (pins : List (Addr × Obj)) (s : Shared) (σ : St) (H : Hp) (v : V) (u : Value) (Q : St → Hp → Prop), Inv X pins σ H s → RelV v u → t v σ H Q →
    wpAny (model X.prog X.w) X.A (assign target X.env u) (fun _ s' => ∃ σ' H', Inv X pins σ' H' s' ∧ Q σ' H') X.xe s
def PGs (X : Cx) (ts : List Expr) (t : TGs) : Prop :=
  ∀ (pins : List (Addr × Obj)) (s : Shared) (σ : St) (H : Hp) (vs : List V) (us : List Value) (Q : St → Hp → Prop), Inv X pins σ H s → Vals vs us → t vs σ H Q →
    wpAny (model X.prog X.w) X.A (assignInOrder ((assignEach ts X.env).map (·.2)) us) (fun _ s' => ∃ σ' H', Inv X pins σ' H' s' ∧ Q σ' H') X.xe s
section
variable {X : Cx} {pos : Pos}
def gName (i : Nat) : TG := fun v σ H Q => Q (σ.set i (some v)) H
theorem pg_name {i : Nat} {x : Str} (hN : X.N.Nodup) (hi : X.N[i]? = some x) (hx : Loc X.env.scope x) (hf : X.fn x = true ∨ X.env.scope.names.lookup x = some .local := by first | exact .inl rfl | exact .inr rfl | assumption) : PG X (.Name x pos) (gName i) := by
  intro pins s σ H v u Q I r h
  exact wpAny_assign_Name (store_ok I hN hi hx r (fun s' I' => ⟨_, H, I', h⟩) hf)
def gNil : TGs := fun vs σ H Q => vs = [] ∧ Q σ H
def gCons (t : TG) (u : TGs) : TGs := fun vs σ H Q => ∃ v r, vs = v :: r ∧ t v σ H fun σ' H' => u r σ' H' Q
theorem pgs_nil : PGs X [] gNil := by
  intro pins s σ H vs us Q I r h
  obtain ⟨e, h⟩ := h
  subst e
  cases r
  exact assignInOrder_nil ⟨σ, H, I, h⟩
theorem pgs_cons {e : Expr} {es : List Expr} {t : TG} {u : TGs} (h1 : PG X e t) (h2 : PGs X es u)
    (hs : (assignEach (e :: es) X.env).map (·.2) = assign e X.env :: (assignEach es X.env).map (·.2) := by rfl) : PGs X (e :: es) (gCons t u) := by
  intro pins s σ H vs us Q I r h
  obtain ⟨v, vr, e1, h⟩ := h
  subst e1
  cases r with
  | cons r rr =>
    rw [hs]
    refine assignInOrder_cons (thn (h1 pins s σ H _ _ _ I r h) fun _ s1 ⟨σ1, H1, I1, q1⟩ => ?_)
    exact h2 pins s1 σ1 H1 _ _ Q I1 rr q1
def gTup (K : PySem.W.Frag) (n : Nat) (t : TGs) : TG := fun v σ H Q => ∃ a xs, v = .ref a ∧ SqT K H a xs ∧ xs.length = n ∧ t xs σ H Q
theorem pg_tup {es : List Expr} {k : Nat} {t : TGs} {n : Nat} (hc : X.calm = true) (h : PGs X es t)
    (hn : (assignEach es X.env).length = n := by rfl) (hst : (assignEach es X.env).findIdx? (·.1) = none := by rfl) : PG X (.Tuple es k pos) (gTup X.K n t) := by
  intro pins s σ H v u Q I r hw
  obtain ⟨a, xs, e1, hq, hl, hw⟩ := hw
  subst e1
  cases r
  obtain ⟨its, rv, ht, hz⟩ := I.tuple hq
  refine assign_Tuple_tuple (I.ok.hd hc) ht (by simp [hn, ← hl, rv.length]) hst fun h' hx => ?_
  have I1 : Inv X pins σ H { s with heap := h' } := I.kept (t' := s.toks) fun b o e => hx b o (Nat.ne_of_lt (Heap.lt_size e)) e
  exact h pins _ σ H xs _ Q I1 (by simpa using rv) hw
def tAsg (te : TE) (g : TG) : TS := fun D σ H => te σ H fun x H1 => g x σ H1 D.nx
theorem ps_asg {tg e : Expr} {te : TE} {g : TG} (he : PE X e te) (hg : PG X tg g) (hs : swapsWithSole [tg] e pos.line X.env = pure false := by rfl) (hw : swappedStores [tg] e X.env = pure none := by rfl)
    (h1 : (assignEach [tg] X.env).map (·.2) = [assign tg X.env] := by rfl) : PS X (.Assign [tg] e pos) (tAsg te g) := by
  intro pins s σ H D I h
  refine wpAny_Assign_stores (thn (he pins s σ H _ I h) fun v s1 ⟨x, H1, I1, r1, q1⟩ => ?_) hs hw
  rw [h1]
  exact thn (hg pins s1 σ H1 x v _ I1 r1 q1) fun _ s2 q => q
theorem ps_set {i : Nat} {x : Str} {e : Expr} {te : TE} {pos' : Pos} (hN : X.N.Nodup) (hi : X.N[i]? = some x) (hx : Loc X.env.scope x) (he : PE X e te) (hs : swapsWith e (some (.Name x pos')) pos.line X.env = pure false := by rfl) (hf : X.fn x = true ∨ X.env.scope.names.lookup x = some .local := by first | exact .inl rfl | exact .inr rfl | assumption) :
    PS X (.Assign [.Name x pos'] e pos) (tAsg te (gName i)) := by
  intro pins s σ H D I h
  refine wpAny_Assign_Name (thn (he pins s σ H _ I h) fun v s1 ⟨y, H1, I1, r1, q1⟩ => ?_) hs
  exact store_ok I1 hN hi hx r1 (fun s2 I2 => ⟨_, H1, I2, q1⟩) hf
end
section
variable {X : Cx} {pos : Pos}
def tWhile (c : TT) (tb : TS) : TS := fun D σ H => ∃ W : Nat → St → Hp → Prop, (∃ m, W m σ H) ∧ ∀ m σ H, W m σ H →
  c σ H fun b H1 => if b = true then ∃ N : St → Hp → Prop, (∀ σ' H', N σ' H' → ∃ m', m' < m ∧ W m' σ' H') ∧ tb { D with nx := N, ct := N, bk := D.nx } σ H1 else D.nx σ H1
theorem ps_while {c : Expr} {body : List Stmt} {tc : TT} {tb : TS} (hp : PassesOwn (model X.prog X.w) X.A X.env X.xe) (hc : PT X c tc) (hb : PSs X body tb) : PS X (.While c body [] pos) (tWhile tc tb) := by
  intro pins s σ H D I h
  obtain ⟨W, ⟨m0, w0⟩, turn⟩ := h
  refine wpAny_While (codeAny_whileLoop (fun n s' => ∃ σ' H', Inv X pins σ' H' s' ∧ W n σ' H') ?_ m0 ⟨σ, H, I, w0⟩)
  rintro n s1 ⟨σ1, H1, I1, w1⟩
  refine wpAny_passesOwn hp (thn (hc pins s1 σ1 H1 _ I1 (turn n σ1 H1 w1)) fun b s2 ⟨H2, I2, q2⟩ => ?_)
  cases b with
  | true =>
    obtain ⟨N, hN, q2⟩ := q2
    rw [if_pos rfl]
    refine wpAny_passesOwn hp (thn (hb pins s2 σ1 H2 _ I2 q2) fun f s3 q3 => ?_)
    cases f with
    | next =>
      obtain ⟨σ3, H3, I3, n3⟩ := q3
      obtain ⟨m', hm, w3⟩ := hN σ3 H3 n3
      exact ⟨m', hm, σ3, H3, I3, w3⟩
    | cont =>
      obtain ⟨σ3, H3, I3, n3⟩ := q3
      obtain ⟨m', hm, w3⟩ := hN σ3 H3 n3
      exact ⟨m', hm, σ3, H3, I3, w3⟩
    | brk => exact q3
    | ret v => exact q3
  | false =>
    rw [if_neg Bool.false_ne_true]
    exact wpAny_execs_nil ⟨σ1, H2, I2, q2⟩
end
structure It where
  go : Nat → Hp → Prop
  yld : Nat → Hp → V → Hp → Prop
  stop : Nat → Hp → Prop
def FpOk (X : Cx) (pins : List (Addr × Obj)) (H : Hp) (b : Addr) : Prop :=
  H b = none ∧ b ≠ X.env.locals ∧ b ∉ X.fs ∧ (b ∈ X.ex ∨ X.s₀.heap.objs.size ≤ b) ∧ (∀ x c, X.env.cells.lookup x = some c → c ≠ b) ∧ ∀ p ∈ X.pn ++ pins, p.1 ≠ b
theorem Inv.fpOk {X : Cx} {pins : List (Addr × Obj)} {σ : St} {H H' : Hp} {s : Shared} {b : Addr} (I : Inv X pins σ H s) (hb : s.heap.objs.size ≤ b) (hn : H' b = none) : FpOk X pins H' b := by
  refine ⟨hn, Nat.ne_of_gt (Nat.lt_of_lt_of_le I.lt hb), I.nofs hb, .inr (Nat.le_trans I.sz hb), fun x c e z => ?_, fun p hp z => ?_⟩
  · obtain ⟨v, q⟩ := I.cell x c e
    exact absurd (Nat.lt_of_lt_of_le q.lt (by rw [z]; exact hb)) (Nat.lt_irrefl _)
  · exact absurd (Nat.lt_of_lt_of_le (Heap.lt_size (I.pin p hp).1) (by rw [z]; exact hb)) (Nat.lt_irrefl _)
structure Turn (P : Program) (w : World) (K : PySem.W.Frag) (tg : Expr) (J : It) (fp : List Addr) (it : Addr) (tn : Nat → Heap → Prop) : Prop where
  mem : it ∈ fp
  obj : ∀ i h, tn i h → ∀ b ∈ fp, ∃ o, h.get? b = some o ∧ ∀ v, o.data ≠ .cell v
  keep : ∀ i h h', tn i h → (∀ b ∈ fp, ∀ o, h.get? b = some o → h'.get? b = some o) → tn i h'
  item : ∀ (X : Cx), X.prog = P → X.w = w → X.K = K → X.calm = true → ∀ (i : Nat) (pins : List (Addr × Obj)) (s : Shared) (σ : St) (H : Hp) (E : Value → Shared → Prop), Inv X pins σ H s → (∀ b ∈ fp, FpOk X pins H b) → tn i s.heap → J.go i H →
    wpAny (model P w) X.A (pyNext (.ref it)) (fun r s1 => ∃ u, r = some u ∧
      wpAny (model P w) X.A (letOwnedTupleGo tg (.ref it) u) (fun _ s2 => ∃ x H', Inv X pins σ H' s2 ∧ RelV x u ∧ J.yld i H x H' ∧ tn (i + 1) s2.heap ∧ ∀ b ∈ fp, H' b = none) E s1) E s
  done : ∀ (X : Cx), X.prog = P → X.w = w → X.K = K → X.calm = true → ∀ (i : Nat) (pins : List (Addr × Obj)) (s : Shared) (σ : St) (H : Hp) (E : Value → Shared → Prop), Inv X pins σ H s → (∀ b ∈ fp, FpOk X pins H b) → tn i s.heap → J.stop i H →
    wpAny (model P w) X.A (pyNext (.ref it)) (fun r s1 => r = none ∧ Inv X pins σ H s1) E s
  self : ∀ (A : Around) (i : Nat) (s : Shared) (Q : Value → Shared → Prop) (E : Value → Shared → Prop), tn i s.heap → Q (.ref it) s → wpAny (model P w) A (pyIter (.ref it)) Q E s
abbrev TI := St → Hp → (It → Hp → Prop) → Prop
def PIE (X : Cx) (pins : List (Addr × Obj)) (σ : St) (tg : Expr) (R : It → Hp → Prop) (itv : Value) (s2 : Shared) : Prop :=
  ∃ (it : Addr) (fp : List Addr) (tn : Nat → Heap → Prop) (J : It) (H' : Hp), itv = .ref it ∧ Inv X pins σ H' s2 ∧ Turn X.prog X.w X.K tg J fp it tn ∧ tn 0 s2.heap ∧ (∀ b ∈ fp, FpOk X pins H' b) ∧ R J H'
def PI (X : Cx) (tg iter : Expr) (wi : TI) : Prop :=
  ∀ (pins : List (Addr × Obj)) (s : Shared) (σ : St) (H : Hp) (R : It → Hp → Prop), Inv X pins σ H s → wi σ H R →
    wpAny (model X.prog X.w) X.A (eval iter X.env) (fun v s1 => wpAny (model X.prog X.w) X.A (pyIter v) (PIE X pins σ tg R) X.xe s1) X.xe s
theorem go_of {M : Model} {A : Around} {E : Value → Shared → Prop} {s : Shared} {tg : Expr} {it : Addr} {u : Value} {o : Obj} {n : String} {vs : Array Value} {Q : Unit → Shared → Prop} (ho : s.heap.get? it = some o) (hc : o.cls = .type n) (hd : o.data = .fields vs)
    (hn : ["enumerate", "zip", "dict_itemiterator", "dict_reverseitemiterator", "odict_iterator", "itertools.zip_longest", "itertools.pairwise"].contains n = false) (hQ : Q () s) : wpAny M A (letOwnedTupleGo tg (.ref it) u) Q E s := by
  unfold letOwnedTupleGo
  cases tg <;> first
    | exact wpAny_pure hQ
    | (cases u <;> first
        | exact wpAny_pure hQ
        | (refine wpAny_bind (wpAny_load ho ?_)
           rw [hc, hd]
           show wpAny M A (if (["enumerate", "zip", "dict_itemiterator", "dict_reverseitemiterator", "odict_iterator", "itertools.zip_longest", "itertools.pairwise"].contains n && vs[0]? == some (rawInt _)) = true then _ else _) Q E s
           rw [if_neg (by intro h; rw [hn, Bool.false_and] at h; cases h)]
           exact wpAny_pure hQ))
def Itl (K : PySem.W.Frag) (a : Addr) : It :=
  ⟨fun i H => ∃ xs x, SqL K H a xs ∧ xs[i]? = some x, fun i H x H' => H' = H ∧ ∀ xs, SqL K H a xs → xs[i]? = some x, fun i H => ∃ xs, SqL K H a xs ∧ xs.length ≤ i⟩
def Itr (lo : Int) (n : Nat) : It := ⟨fun i _ => i < n, fun i H x H' => H' = H ∧ x = .int (lo + i), fun i _ => n ≤ i⟩
theorem turn_list {P : Program} {w : World} {K : PySem.W.Frag} {tg : Expr} (a it : Addr) : Turn P w K tg (Itl K a) [it] it (fun i h => h.IsListIter it a i) where
  mem := by simp
  obj := fun i h st b hb => by
    have e : b = it := by simpa using hb
    subst e
    obtain ⟨o, e, c, d⟩ := st
    exact ⟨o, e, fun v z => by rw [d] at z; cases z⟩
  keep := fun i h h' st k => st.at fun o e => k it (by simp) o e
  item := by
    intro X hP hw hK hc i pins s σ H E I hf st hg
    subst hP hw hK
    obtain ⟨xs, x, hq, hx⟩ := hg
    obtain ⟨its, rv, p, hz⟩ := I.list hq
    obtain ⟨u, hu, ru⟩ := rv.get hx
    obtain ⟨f0, f1, f2, f3, f4, f5⟩ := hf it (by simp)
    refine wpAny_pyNext_list_item st p.isList (x := u) (by simpa using hu) fun h' st' sb => ?_
    have I1 : Inv X pins σ H { s with heap := h' } := I.turned (t' := s.toks) (fun b o hb e => (sb.2 b hb).trans e) f0 f1 f3 f4 f5
    obtain ⟨o, e, c, d⟩ := id st'
    exact ⟨u, rfl, go_of (s := { s with heap := h' }) e c d (by decide) ⟨x, H, I1, ru, ⟨rfl, fun ys hy => by rw [I.list_inj hy hq]; exact hx⟩, st', fun b hb => (hf b hb).1⟩⟩
  done := by
    intro X hP hw hK hc i pins s σ H E I hf st hg
    subst hP hw hK
    obtain ⟨xs, hq, hx⟩ := hg
    obtain ⟨its, rv, p, hz⟩ := I.list hq
    obtain ⟨f0, f1, f2, f3, f4, f5⟩ := hf it (by simp)
    have hl := rv.length
    exact wpAny_pyNext_list_end (I.ok.hd hc) st p.isList (by simp; omega) fun h' eb => ⟨rfl, I.turned (t' := s.toks) (fun b o hb e => eb b o hb e) f0 f1 f3 f4 f5⟩
  self := fun _ _ _ _ _ st h => wpAny_pyIter_listiter st h
theorem turn_range {P : Program} {w : World} {K : PySem.W.Frag} {tg : Expr} (it : Addr) (lo : Int) (n : Nat) : Turn P w K tg (Itr lo n) [it] it (fun i h => IsRangeIter h it (lo + (i : Nat) * 1) ((n : Int) - (i : Nat)) 1) where
  mem := by simp
  obj := fun i h st b hb => by
    have e : b = it := by simpa using hb
    subst e
    exact ⟨_, st, fun v z => by
      have z' : Data.fields _ = Data.cell v := z
      cases z'⟩
  keep := fun i h h' st k => k it (by simp) _ st
  item := by
    intro X hP hw hK hc i pins s σ H E I hf st hg
    subst hP hw hK
    obtain ⟨f0, f1, f2, f3, f4, f5⟩ := hf it (by simp)
    have W := Walks.range (prog := X.prog) (w := X.w) (I.ok.hd hc) it lo 1 n
    refine W.item i s _ _ hg st fun v h' tk hv st' kk => ?_
    obtain ⟨t, rfl⟩ := hv
    have I1 : Inv X pins σ H { s with heap := h', toks := tk } := I.turned (fun b o hb e => kk b o (by simpa using hb) e) f0 f1 f3 f4 f5
    refine ⟨_, rfl, go_of (s := { s with heap := h', toks := tk }) (n := "range_iterator") st' rfl rfl (by decide) ⟨.int (lo + i), H, I1, ⟨t, ?_⟩, ⟨rfl, rfl⟩, st', fun b hb => (hf b hb).1⟩⟩
    rw [Int.mul_one]
  done := by
    intro X hP hw hK hc i pins s σ H E I hf st hg
    subst hP hw hK
    obtain ⟨f0, f1, f2, f3, f4, f5⟩ := hf it (by simp)
    exact wpAny_pyNext_range_end (I.ok.hd hc) st (by have : n ≤ i := hg; omega) fun h' eb => ⟨rfl, I.turned (t' := s.toks) (fun b o hb e => eb b o hb e) f0 f1 f3 f4 f5⟩
  self := fun _ _ _ _ _ st h => wpAny_pyIter_rangeiter st h
section
variable {X : Cx} {tg : Expr}
def iList (K : PySem.W.Frag) (tl : TE) : TI := fun σ H R => tl σ H fun x H1 => ∃ a, x = .ref a ∧ (∃ xs, SqL K H1 a xs) ∧ R (Itl K a) H1
theorem pi_list {l : Expr} {tl : TE} (hl : PE X l tl) : PI X tg l (iList X.K tl) := by
  intro pins s σ H R I h
  refine thn (hl pins s σ H _ I h) fun v s1 ⟨x, H1, I1, r1, q1⟩ => ?_
  obtain ⟨a, e, ⟨xs, hq⟩, q⟩ := q1
  subst e
  cases r1
  obtain ⟨its, rv, p, hz⟩ := I1.list hq
  refine wpAny_pyIter_list p.isList ?_
  refine ⟨s1.heap.objs.size, [s1.heap.objs.size], _, _, H1, rfl, I1.kept (t' := s1.toks) fun b o e => Heap.get?_push_of_some _ e, turn_list a _, ⟨_, Heap.get?_push_size _ rfl, rfl, rfl⟩, fun b hb => ?_, q⟩
  have e : b = s1.heap.objs.size := by simpa using hb
  subst e
  exact I1.fpOk (Nat.le_refl _) (I1.hok.fresh (Nat.le_refl _))
theorem range_it {pins : List (Addr × Obj)} {σ : St} {H : Hp} {s : Shared} {R : It → Hp → Prop} {E : Value → Shared → Prop} {lo hi : Int} {t u v : Tok} {tk : Nat} (I : Inv X pins σ H s) (h1 : -(2 ^ 62) ≤ lo) (h2 : lo < 2 ^ 62) (h3 : -(2 ^ 62) ≤ hi) (h4 : hi < 2 ^ 62)
    (q : R (Itr lo (hi - lo).toNat) H) : wpAny (model X.prog X.w) X.A (pyIter (.ref s.heap.objs.size)) (PIE X pins σ tg R) E { s with heap := s.heap.push { cls := .type "range", data := .fields #[.int lo t, .int hi u, .int 1 v] }, toks := tk } := by
  refine wpAny_pyIter_range (IsRange.new ..) (small_one h1 h2 h3 h4) ?_
  have I1 : Inv X pins σ H { s with heap := s.heap.push { cls := .type "range", data := .fields #[.int lo t, .int hi u, .int 1 v] }, toks := tk } := I.kept fun b o e => Heap.get?_push_of_some _ e
  refine ⟨(s.heap.push { cls := .type "range", data := .fields #[.int lo t, .int hi u, .int 1 v] }).objs.size, [(s.heap.push { cls := .type "range", data := .fields #[.int lo t, .int hi u, .int 1 v] }).objs.size], _, _, H, rfl,
    I1.kept (t' := tk) fun b o e => Heap.get?_push_of_some _ e, turn_range _ lo (hi - lo).toNat, ?_, fun b hb => ?_, q⟩
  · have e1 : lo + ((0 : Nat) : Int) * 1 = lo := by simp
    have e2 : (((hi - lo).toNat : Nat) : Int) - ((0 : Nat) : Int) = Builtin.Range.rangeSize lo hi 1 := by rw [rangeSize_one]; split <;> omega
    show IsRangeIter _ _ (lo + ((0 : Nat) : Int) * 1) ((((hi - lo).toNat : Nat) : Int) - ((0 : Nat) : Int)) 1
    rw [e1, e2]
    exact Heap.get?_push_size _ rfl
  · have e : b = (s.heap.push { cls := .type "range", data := .fields #[.int lo t, .int hi u, .int 1 v] }).objs.size := by simpa using hb
    subst e
    exact I1.fpOk (Nat.le_refl _) (I1.hok.fresh (Nat.le_refl _))
def iRng1 (ta : TA) : TI := fun σ H R => ta σ H fun vs H1 => ∃ j : Int, vs = [.int j] ∧ -(2 ^ 62) ≤ j ∧ j < 2 ^ 62 ∧ R (Itr 0 j.toNat) H1
theorem pi_range1 {a : Expr} {ta : TA} {p pos : Pos} (hg : Gl X "range") (hm : X.mg "range" = none) (ha : PA X [a] ta) (hs : starEach [a] X.env = [(false, eval a X.env)] := by rfl) : PI X tg (.Call (.Name "range" p) [a] [] pos) (iRng1 ta) := by
  intro pins s σ H R I h
  refine Call_ (ld_blt I hg hm boot_range (PyProof.Rows.callWith_type1 (thn (ha pos pins s σ H _ I h) fun us s1 ⟨vs, H1, I1, r1, q1⟩ => ?_) hs rfl))
  obtain ⟨j, e, q1, q2, q⟩ := q1
  subst e
  cases r1 with
  | cons r rr =>
    cases rr
    obtain ⟨t, rfl⟩ := r
    exact call_range_1 (range_it I1 (by omega) (by omega) q1 q2 (by simpa using q))
def tFor (wi : TI) (g : TG) (tb : TS) : TS := fun D σ H => wi σ H fun J H1 => ∃ W : Nat → Nat → St → Hp → Prop, (∃ m, W 0 m σ H1) ∧ ∀ i m σ H, W i m σ H →
  (J.stop i H ∧ D.nx σ H) ∨ (J.go i H ∧ ∃ N : St → Hp → Prop, (∀ σ' H', N σ' H' → ∃ m', m' < m ∧ W (i + 1) m' σ' H') ∧ ∀ x H', J.yld i H x H' → g x σ H' fun σ2 H2 => tb { D with nx := N, ct := N, bk := D.nx } σ2 H2)
def pinsAt (fp : List Addr) (h : Heap) : List (Addr × Obj) := fp.filterMap fun b => (h.get? b).map fun o => (b, o)
theorem mem_pinsAt {fp : List Addr} {h : Heap} {b : Addr} {o : Obj} (hb : b ∈ fp) (e : h.get? b = some o) : (b, o) ∈ pinsAt fp h := List.mem_filterMap.mpr ⟨b, hb, by rw [e]; rfl⟩
theorem of_pinsAt {fp : List Addr} {h : Heap} {p : Addr × Obj} (hp : p ∈ pinsAt fp h) : p.1 ∈ fp ∧ h.get? p.1 = some p.2 := by
  obtain ⟨b, hb, e⟩ := List.mem_filterMap.mp hp
  cases q : h.get? b with
  | none => rw [q] at e; cases e
  | some o =>
    rw [q] at e
    have e' : (b, o) = p := Option.some.inj e
    subst e'
    exact ⟨hb, q⟩
theorem Inv.pinned {pins : List (Addr × Obj)} {σ : St} {H : Hp} {s : Shared} {fp : List Addr} (I : Inv X pins σ H s) (hf : ∀ b ∈ fp, FpOk X pins H b) (ho : ∀ b ∈ fp, ∃ o, s.heap.get? b = some o ∧ ∀ v, o.data ≠ .cell v) : Inv X (pins ++ pinsAt fp s.heap) σ H s :=
  I.pins_of fun p hp => (List.mem_append.mp hp).elim (fun z => I.pin p (List.mem_append_right _ z)) fun z => by
    obtain ⟨hb, e⟩ := of_pinsAt z
    obtain ⟨f0, f1, f2, _⟩ := hf p.1 hb
    obtain ⟨o, e', d⟩ := ho p.1 hb
    rw [e] at e'; cases e'
    exact ⟨e, f0, f1, f2, d⟩
theorem Inv.unpinned {pins pl : List (Addr × Obj)} {σ : St} {H : Hp} {s : Shared} (I : Inv X (pins ++ pl) σ H s) : Inv X pins σ H s := I.pins_of fun p hp => I.pin p (List.mem_append_right _ (List.mem_append_left _ hp))
theorem ps_for {iter : Expr} {body : List Stmt} {wi : TI} {g : TG} {tb : TS} {pos : Pos} (hp : PassesOwn (model X.prog X.w) X.A X.env X.xe) (hc : X.calm = true) (hi : PI X tg iter wi) (hg : PG X tg g) (hb : PSs X body tb)
    (hs : ∀ x, foldedSetIterable iter X.env x = pure x := by intro _; rfl) : PS X (.For tg iter body [] pos) (tFor wi g tb) := by
  intro pins s σ H D I h
  refine wpAny_For (thn (hi pins s σ H _ I h) fun v s1 h1 => thn h1 fun itv s2 h2 => ?_) hs
  obtain ⟨it, fp, tn, J, H2, e, I2, T, st2, f2, W, ⟨m0, w0⟩, turn⟩ := h2
  subst e
  -- what stays true of the iterator's objects through the loop
  have stat : ∀ {H' : Hp}, (∀ b ∈ fp, H' b = none) → ∀ b ∈ fp, FpOk X pins H' b := fun hn b hb => ⟨hn b hb, (f2 b hb).2⟩
  refine codeAny_forLoop_any (fun n s' => ∃ i σ' H', Inv X pins σ' H' s' ∧ tn i s'.heap ∧ (∀ b ∈ fp, H' b = none) ∧ W i n σ' H') ?_ m0 ⟨0, σ, H2, I2, st2, fun b hb => (f2 b hb).1, w0⟩
  rintro n s3 ⟨i, σ3, H3, I3, st3, fr3, w3⟩
  rcases turn i n σ3 H3 w3 with ⟨stop, qn⟩ | ⟨go, N, hN, step⟩
  · refine wpAny_passesOwn hp (thn (T.done X rfl rfl rfl hc i pins s3 σ3 H3 X.xe I3 (stat fr3) st3 stop) fun r s4 ⟨hr, I4⟩ => ?_)
    subst hr
    exact wpAny_execs_nil ⟨σ3, H3, I4, qn⟩
  · refine wpAny_passesOwn hp (thn (T.item X rfl rfl rfl hc i pins s3 σ3 H3 X.xe I3 (stat fr3) st3 go) fun r s4 ⟨u, hr, h4⟩ => ?_)
    subst hr
    refine wpAny_passesOwn hp (thn h4 fun _ s5 ⟨x, H5, I5, r5, y5, st5, fr5⟩ => ?_)
    have I5' := I5.pinned (stat fr5) (T.obj _ _ st5)
    refine wpAny_passesOwn hp (thn (hg _ s5 σ3 H5 x u _ I5' r5 (step x H5 y5)) fun _ s6 ⟨σ6, H6, I6, q6⟩ => ?_)
    refine wpAny_passesOwn hp (thn (hb _ s6 σ6 H6 _ I6 q6) fun f s7 q7 => ?_)
    have again : ∀ {σ7 : St} {H7 : Hp}, Inv X (pins ++ pinsAt fp s5.heap) σ7 H7 s7 → N σ7 H7 → ∃ m, m < n ∧ ∃ i σ' H', Inv X pins σ' H' s7 ∧ tn i s7.heap ∧ (∀ b ∈ fp, H' b = none) ∧ W i m σ' H' := fun {σ7 H7} I7 n7 => by
      obtain ⟨m', hm, w7⟩ := hN σ7 H7 n7
      refine ⟨m', hm, i + 1, σ7, H7, I7.unpinned, T.keep _ _ _ st5 fun b hb o e => (I7.pin (b, o) (List.mem_append_right _ (List.mem_append_right _ (mem_pinsAt hb e)))).1, fun b hb => ?_, w7⟩
      obtain ⟨o, e, d⟩ := T.obj _ _ st5 b hb
      exact (I7.pin (b, o) (List.mem_append_right _ (List.mem_append_right _ (mem_pinsAt hb e)))).2.1
    cases f with
    | next => obtain ⟨σ7, H7, I7, n7⟩ := q7; exact again I7 n7
    | cont => obtain ⟨σ7, H7, I7, n7⟩ := q7; exact again I7 n7
    | brk => obtain ⟨σ7, H7, I7, q7⟩ := q7; exact ⟨σ7, H7, I7.unpinned, q7⟩
    | ret v => obtain ⟨x7, σ7, H7, I7, r7, q7⟩ := q7; exact ⟨x7, σ7, H7, I7.unpinned, r7, q7⟩
end
theorem for_list {K : PySem.W.Frag} {a : Addr} {xs : List V} {g : TG} {tb : TS} {D : Ends} {σ : St} {H : Hp} (Pv : Nat → St → Hp → Prop) (h0 : Pv 0 σ H) (hl : ∀ i σ H, i ≤ xs.length → Pv i σ H → SqL K H a xs)
    (hs : ∀ i x σ H, xs[i]? = some x → Pv i σ H → g x σ H fun σ2 H2 => tb { D with nx := Pv (i + 1), ct := Pv (i + 1), bk := D.nx } σ2 H2) (hd : ∀ σ H, Pv xs.length σ H → D.nx σ H) :
    ∃ W : Nat → Nat → St → Hp → Prop, (∃ m, W 0 m σ H) ∧ ∀ i m σ H, W i m σ H →
      ((Itl K a).stop i H ∧ D.nx σ H) ∨ ((Itl K a).go i H ∧ ∃ N : St → Hp → Prop, (∀ σ' H', N σ' H' → ∃ m', m' < m ∧ W (i + 1) m' σ' H') ∧ ∀ x H', (Itl K a).yld i H x H' → g x σ H' fun σ2 H2 => tb { D with nx := N, ct := N, bk := D.nx } σ2 H2) := by
  refine ⟨fun i m σ H => m = xs.length - i ∧ i ≤ xs.length ∧ Pv i σ H, ⟨xs.length, by simp, Nat.zero_le _, h0⟩, ?_⟩
  rintro i m σ H ⟨rfl, hi, p⟩
  have q := hl i σ H hi p
  by_cases hlt : i < xs.length
  · refine .inr ⟨⟨xs, xs[i], q, by simp [hlt]⟩, Pv (i + 1), fun σ' H' p' => ⟨xs.length - (i + 1), by omega, rfl, hlt, p'⟩, fun x H' y => ?_⟩
    obtain ⟨e, y⟩ := y
    subst e
    exact hs i x σ _ (y xs q) p
  · have e : i = xs.length := by omega
    subst e
    exact .inl ⟨⟨xs, q, Nat.le_refl _⟩, hd σ H p⟩
theorem for_range {lo : Int} {n : Nat} {g : TG} {tb : TS} {D : Ends} {σ : St} {H : Hp} (Pv : Nat → St → Hp → Prop) (h0 : Pv 0 σ H)
    (hs : ∀ i σ H, i < n → Pv i σ H → g (.int (lo + i)) σ H fun σ2 H2 => tb { D with nx := Pv (i + 1), ct := Pv (i + 1), bk := D.nx } σ2 H2) (hd : ∀ σ H, Pv n σ H → D.nx σ H) :
    ∃ W : Nat → Nat → St → Hp → Prop, (∃ m, W 0 m σ H) ∧ ∀ i m σ H, W i m σ H →
      ((Itr lo n).stop i H ∧ D.nx σ H) ∨ ((Itr lo n).go i H ∧ ∃ N : St → Hp → Prop, (∀ σ' H', N σ' H' → ∃ m', m' < m ∧ W (i + 1) m' σ' H') ∧ ∀ x H', (Itr lo n).yld i H x H' → g x σ H' fun σ2 H2 => tb { D with nx := N, ct := N, bk := D.nx } σ2 H2) := by
  refine ⟨fun i m σ H => m = n - i ∧ i ≤ n ∧ Pv i σ H, ⟨n, by simp, Nat.zero_le _, h0⟩, ?_⟩
  rintro i m σ H ⟨rfl, hi, p⟩
  by_cases hlt : i < n
  · refine .inr ⟨hlt, Pv (i + 1), fun σ' H' p' => ⟨n - (i + 1), by omega, rfl, hlt, p'⟩, fun x H' y => ?_⟩
    obtain ⟨e, y⟩ := y
    subst e y
    exact hs i σ _ hlt p
  · have e : i = n := by omega
    subst e
    exact .inl ⟨Nat.le_refl _, hd σ H p⟩
abbrev R2 := V → V → Hp → VK → Prop
def OpR (X : Cx) (f : Value → Value → Sem Value) (r : R2) : Prop :=
  ∀ (pins : List (Addr × Obj)) (s : Shared) (σ : St) (H : Hp) (x y : V) (v u : Value) (Q : VK), Inv X pins σ H s → RelV x v → RelV y u → r x y H Q →
    wpAny (model X.prog X.w) X.A (f v u) (EP X pins σ Q) X.xe s
def UnR (X : Cx) (f : Value → Sem Value) (r : V → Hp → VK → Prop) : Prop :=
  ∀ (pins : List (Addr × Obj)) (s : Shared) (σ : St) (H : Hp) (x : V) (v : Value) (Q : VK), Inv X pins σ H s → RelV x v → r x H Q →
    wpAny (model X.prog X.w) X.A (f v) (EP X pins σ Q) X.xe s
def CallR (X : Cx) (f : Value) (r : List V → Hp → VK → Prop) : Prop :=
  ∀ (pins : List (Addr × Obj)) (s : Shared) (σ : St) (H : Hp) (xs : List V) (us : List Value) (Q : VK), Inv X pins σ H s → Vals xs us → r xs H Q →
    wpAny (model X.prog X.w) X.A (call f us) (EP X pins σ Q) X.xe s
def tOp (r : R2) (ta tb : TE) : TE := fun σ H Q => ta σ H fun x H1 => tb σ H1 fun y H2 => r x y H2 Q
def tUn (r : V → Hp → VK → Prop) (ta : TE) : TE := fun σ H Q => ta σ H fun x H1 => r x H1 Q
def rI (C : Int → Int → Prop) (g : Int → Int → V) : R2 := fun x y H Q => ∃ i j, x = .int i ∧ y = .int j ∧ C i j ∧ Q (g i j) H
def rI0 (g : Int → Int → V) : R2 := fun x y H Q => ∃ i j, x = .int i ∧ y = .int j ∧ Q (g i j) H
def rU (g : Int → V) : V → Hp → VK → Prop := fun x H Q => ∃ i, x = .int i ∧ Q (g i) H
section
variable {X : Cx} {a b c : Expr} {ta tb tc : TE} {pos : Pos}
theorem binT (ha : PE X a ta) (hb : PE X b tb) {pins : List (Addr × Obj)} {s : Shared} {σ : St} {H : Hp} {R : V → V → Hp → Prop} (I : Inv X pins σ H s)
    (h : ta σ H fun x H1 => tb σ H1 fun y H2 => R x y H2) {Q : Value → Shared → Prop} {f : Value → Value → Sem Value}
    (hf : ∀ v u s2 x y H2, Inv X pins σ H2 s2 → RelV x v → RelV y u → R x y H2 → wpAny (model X.prog X.w) X.A (f v u) Q X.xe s2) :
    wpAny (model X.prog X.w) X.A (eval a X.env) (fun v s₁ => wpAny (model X.prog X.w) X.A (eval b X.env) (fun u s₂ => wpAny (model X.prog X.w) X.A (f v u) Q X.xe s₂) X.xe s₁) X.xe s := by
  refine thn (ha pins s σ H _ I h) fun v s1 ⟨x, H1, I1, r1, q1⟩ => ?_
  refine thn (hb pins s1 σ H1 _ I1 q1) fun u s2 ⟨y, H2, I2, r2, q2⟩ => ?_
  exact hf v u s2 x y H2 I2 r1 r2 q2
theorem pe_op {op : Operator} {r : R2} (ho : OpR X (binaryOp op) r) (ha : PE X a ta) (hb : PE X b tb) : PE X (.BinOp a op b pos) (tOp r ta tb) := by
  intro pins s σ H Q I h
  exact wpAny_BinOp (binT ha hb I h fun v u s2 x y H2 I2 rx ry q => ho pins s2 σ H2 x y v u Q I2 rx ry q)
theorem pe_un {op : UnaryOp} {r : V → Hp → VK → Prop} (ho : UnR X (unaryOp op) r) (ha : PE X a ta) : PE X (.UnaryOp op a pos) (tUn r ta) := by
  intro pins s σ H Q I h
  exact UnaryOp_ (thn (ha pins s σ H _ I h) fun v s1 ⟨x, H1, I1, r1, q1⟩ => ho pins s1 σ H1 x v Q I1 r1 q1)
theorem opI {f : Value → Value → Sem Value} {C : Int → Int → Prop} {g : Int → Int → Int}
    (rule : ∀ (i j : Int) (t u : Tok) (s : Shared) (Q : Value → Shared → Prop) (E : Value → Shared → Prop), C i j → Q (.int (g i j) s.toks) { s with toks := s.toks + 1 } → wpAny (model X.prog X.w) X.A (f (.int i t) (.int j u)) Q E s) :
    OpR X f (rI C fun i j => .int (g i j)) := by
  intro pins s σ H x y v u Q I rx ry h
  obtain ⟨i, j, rfl, rfl, hc, q⟩ := h
  obtain ⟨t, rfl⟩ := rx
  obtain ⟨t', rfl⟩ := ry
  exact rule i j t t' s _ _ hc ⟨.int (g i j), H, I.tok _, ⟨_, rfl⟩, q⟩
theorem opI0 {f : Value → Value → Sem Value} {g : Int → Int → Int}
    (rule : ∀ (i j : Int) (t u : Tok) (s : Shared) (Q : Value → Shared → Prop) (E : Value → Shared → Prop), Q (.int (g i j) s.toks) { s with toks := s.toks + 1 } → wpAny (model X.prog X.w) X.A (f (.int i t) (.int j u)) Q E s) :
    OpR X f (rI0 fun i j => .int (g i j)) := by
  intro pins s σ H x y v u Q I rx ry h
  obtain ⟨i, j, rfl, rfl, q⟩ := h
  obtain ⟨t, rfl⟩ := rx
  obtain ⟨t', rfl⟩ := ry
  exact rule i j t t' s _ _ ⟨.int (g i j), H, I.tok _, ⟨_, rfl⟩, q⟩
theorem opB0 {f : Value → Value → Sem Value} {g : Int → Int → Bool}
    (rule : ∀ (i j : Int) (t u : Tok) (s : Shared) (Q : Value → Shared → Prop) (E : Value → Shared → Prop), Q (.bool (g i j)) s → wpAny (model X.prog X.w) X.A (f (.int i t) (.int j u)) Q E s) :
    OpR X f (rI0 fun i j => .bl (g i j)) := by
  intro pins s σ H x y v u Q I rx ry h
  obtain ⟨i, j, rfl, rfl, q⟩ := h
  obtain ⟨t, rfl⟩ := rx
  obtain ⟨t', rfl⟩ := ry
  exact rule i j t t' s _ _ ⟨.bl (g i j), H, I, rfl, q⟩
def CDiv (i j : Int) : Prop := 0 < j ∧ j < 1073741824
def CPow (i j : Int) : Prop := 0 ≤ j ∧ j ≤ 1000000 ∧ i.natAbs < 2 ^ 64
def CMul (i j : Int) : Prop := (-(2 ^ 64) < i ∧ i < 2 ^ 64) ∨ (-(2 ^ 64) < j ∧ j < 2 ^ 64)
theorem CMul.ok {i j : Int} (h : CMul i j) : IntMulOk i j := by
  rcases h with ⟨h1, h2⟩ | ⟨h1, h2⟩
  · exact .of_left (intBits_le_64 h1 h2)
  · exact .of_right (intBits_le_64 h1 h2)
theorem op_add : OpR X (binaryOp .Add) (rI0 fun i j => .int (i + j)) := opI0 fun _ _ _ _ _ _ _ q => add_int q
theorem op_sub : OpR X (binaryOp .Sub) (rI0 fun i j => .int (i - j)) := opI0 fun _ _ _ _ _ _ _ q => sub_int q
theorem op_mul : OpR X (binaryOp .Mult) (rI CMul fun i j => .int (i * j)) := opI fun _ _ _ _ _ _ _ hc q => mul_int q hc.ok
theorem op_fdiv : OpR X (binaryOp .FloorDiv) (rI CDiv fun i j => .int (i / j)) := opI fun i j _ _ _ _ _ hc q => by
  have h1 : (0 : Int) < j := hc.1
  have h2 : j < 1073741824 := hc.2
  exact floordiv_int (by omega) (by rw [Int.fdiv_eq_ediv_of_nonneg i (by omega)]; exact q) (.inl (PyProof.noPylong_small (by omega)))
theorem op_mod : OpR X (binaryOp .Mod) (rI (fun _ j => 0 < j) fun i j => .int (i % j)) := opI fun i j _ _ _ _ _ hc q => by
  have h1 : (0 : Int) < j := hc
  exact mod_int' (by omega) (by rw [Int.fmod_eq_emod_of_nonneg i (by omega)]; exact q)
theorem op_pow : OpR X (binaryOp .Pow) (rI CPow fun i j => .int (i ^ j.toNat)) := opI fun _ _ _ _ _ _ _ hc q => pow_int_small hc.1 hc.2.1 hc.2.2 q
theorem op_shl : OpR X (binaryOp .LShift) (rI CPow fun i j => .int (i * 2 ^ j.toNat)) := opI fun _ _ _ _ _ _ _ hc q => lshift_int_small hc.1 hc.2.1 hc.2.2 q
theorem unI {f : Value → Sem Value} {g : Int → Int}
    (rule : ∀ (i : Int) (t : Tok) (s : Shared) (Q : Value → Shared → Prop) (E : Value → Shared → Prop), Q (.int (g i) s.toks) { s with toks := s.toks + 1 } → wpAny (model X.prog X.w) X.A (f (.int i t)) Q E s) :
    UnR X f (rU fun i => .int (g i)) := by
  intro pins s σ H x v Q I rx h
  obtain ⟨i, rfl, q⟩ := h
  obtain ⟨t, rfl⟩ := rx
  exact rule i t s _ _ ⟨.int (g i), H, I.tok _, ⟨_, rfl⟩, q⟩
theorem un_neg : UnR X (unaryOp .USub) (rU fun i => .int (-i)) := unI fun _ _ _ _ _ q => neg_int q
end
def scal : V → V → Bool
  | .non, .non => true | .non, .int _ => true | .int _, .non => true | .non, .bl _ => true | .bl _, .non => true | .non, .str _ => true | .str _, .non => true
  | .int _, .int _ => true | .bl _, .bl _ => true | .str _, .str _ => true | .byt _, .byt _ => true
  | .int _, .str _ => true | .str _, .int _ => true | .bl _, .str _ => true | .str _, .bl _ => true
  | _, _ => false
def rEq : R2 := fun x y H Q => scal x y = true ∧ Q (.bl (decide (x = y))) H
def rNe : R2 := fun x y H Q => scal x y = true ∧ Q (.bl (!decide (x = y))) H
theorem dec_int {i j : Int} : decide (V.int i = V.int j) = (i == j) := by
  rw [Bool.eq_iff_iff]
  simp
theorem dec_bl {i j : Bool} : decide (V.bl i = V.bl j) = (i == j) := by
  rw [Bool.eq_iff_iff]
  simp
theorem dec_str {i j : Str} : decide (V.str i = V.str j) = (i == j) := by
  rw [Bool.eq_iff_iff]
  simp
theorem dec_byt {i j : Array UInt8} : decide (V.byt i = V.byt j) = (i.toList == j.toList) := by
  rw [Bool.eq_iff_iff]
  cases i
  cases j
  simp
section
variable {X : Cx} {a b c : Expr} {ta tb tc : TE} {pos : Pos}
theorem fin_bl {pins : List (Addr × Obj)} {σ : St} {H : Hp} {s : Shared} {Q : VK} {k k' : Bool} (I : Inv X pins σ H s) (q : Q (.bl k) H) (e : k = k') : EP X pins σ Q (.bool k') s := by
  subst e
  exact ⟨.bl k, H, I, rfl, q⟩
theorem op_eq : OpR X (compareOp .Eq) rEq := by
  intro pins s σ H x y v u Q I rx ry h
  obtain ⟨hs, q⟩ := h
  cases x with
  | non =>
    cases rx
    cases y with
    | non => cases ry; exact PySem.EqNone.eq_none_none (fin_bl I q (by simp))
    | bl j => cases ry; exact PySem.EqNone.eq_none_bool (fin_bl I q (by simp))
    | int j => obtain ⟨t', rfl⟩ := ry; exact PySem.EqNone.eq_none_int (fin_bl I q (by simp))
    | str j => obtain ⟨t', rfl⟩ := ry; exact PySem.EqNone.eq_none_str (fin_bl I q (by simp))
    | _ => exact absurd (show false = true from hs) Bool.false_ne_true
  | bl i =>
    cases rx
    cases y with
    | non => cases ry; exact PySem.EqNone.eq_bool_none (fin_bl I q (by simp))
    | bl j => cases ry; exact eq_bool (fin_bl I q dec_bl)
    | str j => obtain ⟨t', rfl⟩ := ry; exact PySem.EqMixed.eq_bool_str (fin_bl I q (by simp))
    | _ => exact absurd (show false = true from hs) Bool.false_ne_true
  | int i =>
    obtain ⟨t, rfl⟩ := rx
    cases y with
    | non => cases ry; exact PySem.EqNone.eq_int_none (fin_bl I q (by simp))
    | int j => obtain ⟨t', rfl⟩ := ry; exact eq_int (fin_bl I q dec_int)
    | str j => obtain ⟨t', rfl⟩ := ry; exact PySem.EqMixed.eq_int_str (fin_bl I q (by simp))
    | _ => exact absurd (show false = true from hs) Bool.false_ne_true
  | str i =>
    obtain ⟨t, rfl⟩ := rx
    cases y with
    | non => cases ry; exact PySem.EqNone.eq_str_none (fin_bl I q (by simp))
    | bl j => cases ry; exact PySem.EqMixed.eq_str_bool (fin_bl I q (by simp))
    | int j => obtain ⟨t', rfl⟩ := ry; exact PySem.EqMixed.eq_str_int (fin_bl I q (by simp))
    | str j => obtain ⟨t', rfl⟩ := ry; exact eq_str (fin_bl I q dec_str)
    | _ => exact absurd (show false = true from hs) Bool.false_ne_true
  | byt i =>
    obtain ⟨t, rfl⟩ := rx
    cases y with
    | byt j => obtain ⟨t', rfl⟩ := ry; exact PySem.W.eq_bytes (fin_bl I q dec_byt)
    | _ => exact absurd (show false = true from hs) Bool.false_ne_true
  | _ => cases y <;> exact absurd (show false = true from hs) Bool.false_ne_true
theorem op_ne : OpR X (compareOp .NotEq) rNe := by
  intro pins s σ H x y v u Q I rx ry h
  obtain ⟨hs, q⟩ := h
  cases x with
  | non =>
    cases rx
    cases y with
    | non => cases ry; exact PySem.EqNone.ne_none_none (fin_bl I q (by simp))
    | bl j => cases ry; exact PySem.EqNone.ne_none_bool (fin_bl I q (by simp))
    | int j => obtain ⟨t', rfl⟩ := ry; exact PySem.EqNone.ne_none_int (fin_bl I q (by simp))
    | str j => obtain ⟨t', rfl⟩ := ry; exact PySem.EqNone.ne_none_str (fin_bl I q (by simp))
    | _ => exact absurd (show false = true from hs) Bool.false_ne_true
  | bl i =>
    cases rx
    cases y with
    | non => cases ry; exact PySem.EqNone.ne_bool_none (fin_bl I q (by simp))
    | bl j => cases ry; exact ne_bool (fin_bl I q (congrArg not dec_bl))
    | str j => obtain ⟨t', rfl⟩ := ry; exact PySem.EqMixed.ne_bool_str (fin_bl I q (by simp))
    | _ => exact absurd (show false = true from hs) Bool.false_ne_true
  | int i =>
    obtain ⟨t, rfl⟩ := rx
    cases y with
    | non => cases ry; exact PySem.EqNone.ne_int_none (fin_bl I q (by simp))
    | int j => obtain ⟨t', rfl⟩ := ry; exact ne_int (fin_bl I q (congrArg not dec_int))
    | str j => obtain ⟨t', rfl⟩ := ry; exact PySem.EqMixed.ne_int_str (fin_bl I q (by simp))
    | _ => exact absurd (show false = true from hs) Bool.false_ne_true
  | str i =>
    obtain ⟨t, rfl⟩ := rx
    cases y with
    | non => cases ry; exact PySem.EqNone.ne_str_none (fin_bl I q (by simp))
    | bl j => cases ry; exact PySem.EqMixed.ne_str_bool (fin_bl I q (by simp))
    | int j => obtain ⟨t', rfl⟩ := ry; exact PySem.EqMixed.ne_str_int (fin_bl I q (by simp))
    | str j => obtain ⟨t', rfl⟩ := ry; exact ne_str (fin_bl I q (congrArg not dec_str))
    | _ => exact absurd (show false = true from hs) Bool.false_ne_true
  | byt i =>
    obtain ⟨t, rfl⟩ := rx
    cases y with
    | byt j => obtain ⟨t', rfl⟩ := ry; exact PySem.W.ne_bytes (fin_bl I q (congrArg not dec_byt))
    | _ => exact absurd (show false = true from hs) Bool.false_ne_true
  | _ => cases y <;> exact absurd (show false = true from hs) Bool.false_ne_true
theorem op_lt : OpR X (compareOp .Lt) (rI0 fun i j => .bl (decide (i < j))) := opB0 fun _ _ _ _ _ _ _ q => lt_int q
theorem op_le : OpR X (compareOp .LtE) (rI0 fun i j => .bl (decide (i ≤ j))) := opB0 fun _ _ _ _ _ _ _ q => le_int q
theorem op_gt : OpR X (compareOp .Gt) (rI0 fun i j => .bl (decide (j < i))) := opB0 fun _ _ _ _ _ _ _ q => gt_int q
theorem op_ge : OpR X (compareOp .GtE) (rI0 fun i j => .bl (decide (j ≤ i))) := opB0 fun _ _ _ _ _ _ _ q => ge_int q
theorem op_isN : OpR X (compareOp .Is) (fun x y H Q => y = .non ∧ Q (.bl (decide (x = .non))) H) := by
  intro pins s σ H x y v u Q I rx ry h
  obtain ⟨rfl, q⟩ := h
  cases ry
  refine is_none_gen (fin_bl I q ?_)
  cases x <;> first
    | (cases rx; rfl)
    | (obtain ⟨t, rfl⟩ := rx; rfl)
theorem OpR.or {f : Value → Value → Sem Value} {r r' : R2} (h : OpR X f r) (h' : OpR X f r') : OpR X f (fun x y H Q => r x y H Q ∨ r' x y H Q) := by
  intro pins s σ H x y v u Q I rx ry q
  rcases q with q | q
  · exact h pins s σ H x y v u Q I rx ry q
  · exact h' pins s σ H x y v u Q I rx ry q
theorem nomark (b : Expr) {op : CmpOp} (h : op ≠ .In := by decide) (h2 : op ≠ .NotIn := by decide) : behindInMarks op b = false := by
  have e1 : (op == CmpOp.In) = false := by cases op <;> first | rfl | exact absurd rfl h
  have e2 : (op == CmpOp.NotIn) = false := by cases op <;> first | rfl | exact absurd rfl h2
  cases b <;> simp [behindInMarks, e1, e2]
theorem pe_cmpR {op : CmpOp} {r : R2} (ho : OpR X (compareOp op) r) (ha : PE X a ta) (hb : PE X b tb) (hm : behindInMarks op b = false) : PE X (.Compare a [op] [b] pos) (tOp r ta tb) := by
  intro pins s σ H Q I h
  exact wpAny_Compare1 (binT ha hb I h fun v u s2 x y H2 I2 rx ry q => ho pins s2 σ H2 x y v u Q I2 rx ry q) hm
def tTest (t : TE) : TT := fun σ H Q => t σ H fun x H' => ∃ k, x = .bl k ∧ Q k H'
theorem pt_cmpR {op : CmpOp} {r : R2} (ho : OpR X (compareOp op) r) (ha : PE X a ta) (hb : PE X b tb) (hm : behindInMarks op b = false) : PT X (.Compare a [op] [b] pos) (tTest (tOp r ta tb)) := by
  intro pins s σ H Q I h
  refine wpAny_isTrue_Compare1 (thn (ha pins s σ H _ I h) fun v s1 ⟨x, H1, I1, r1, q1⟩ => thn (hb pins s1 σ H1 _ I1 q1) fun u s2 ⟨y, H2, I2, r2, q2⟩ =>
    thn (ho pins s2 σ H2 x y v u _ I2 r1 r2 q2) fun c s3 ⟨z, H3, I3, r3, k, e, q3⟩ => ?_) hm
  subst e
  cases r3
  exact wpAny_truthy_bool ⟨H3, I3, q3⟩
def tChain (r r' : R2) (ta tb tc : TE) : TE := fun σ H Q => ta σ H fun x H1 => tb σ H1 fun y H2 => r x y H2 fun z H3 => ∃ k, z = .bl k ∧
  (if k = true then tc σ H3 fun w' H4 => r' y w' H4 Q else Q (.bl false) H3)
theorem pe_chain {op op' : CmpOp} {r r' : R2} (ho : OpR X (compareOp op) r) (ho' : OpR X (compareOp op') r') (ha : PE X a ta) (hb : PE X b tb) (hc : PE X c tc)
    (hm : lastMarks [op, op'] [b, c] = false := by with_unfolding_all rfl) : PE X (.Compare a [op, op'] [b, c] pos) (tChain r r' ta tb tc) := by
  intro pins s σ H Q I h
  refine Compare_chain (thn (ha pins s σ H _ I h) fun v s1 ⟨x, H1, I1, r1, q1⟩ => chain_link (thn (hb pins s1 σ H1 _ I1 q1) fun u s2 ⟨y, H2, I2, r2, q2⟩ =>
    thn (ho pins s2 σ H2 x y v u _ I2 r1 r2 q2) fun d s3 ⟨z, H3, I3, r3, k, e, q3⟩ => ?_)) hm
  subst e
  cases r3
  refine wpAny_truthy_bool ?_
  cases k with
  | false => exact ite_ff ⟨.bl false, H3, I3, rfl, q3⟩
  | true => exact ite_tt (chain_last (thn (hc pins s3 σ H3 _ I3 q3) fun w' s4 ⟨z', H4, I4, r4, q4⟩ => ho' pins s4 σ H4 y z' u w' Q I4 r2 r4 q4))
theorem line63 : (sizeLine : Nat) < 2 ^ 63 := by rw [sizeLine_eq]; decide
theorem vals1 {x : V} {us : List Value} (r : Vals [x] us) : ∃ u, us = [u] ∧ RelV x u := by
  cases r with
  | cons r1 r2 => cases r2; exact ⟨_, rfl, r1⟩
theorem vals2 {x y : V} {us : List Value} (r : Vals [x, y] us) : ∃ u w', us = [u, w'] ∧ RelV x u ∧ RelV y w' := by
  cases r with
  | cons r1 r2 =>
    cases r2 with
    | cons r3 r4 => cases r4; exact ⟨_, _, rfl, r1, r3⟩
theorem call_max2 (hc : X.calm = true) : CallR X (.builtin "max") (fun xs H Q => ∃ i j, xs = [.int i, .int j] ∧ Q (.int (if j > i then j else i)) H) := by
  intro pins s σ H xs us Q I r h
  obtain ⟨i, j, rfl, q⟩ := h
  obtain ⟨u, w', rfl, ⟨t, rfl⟩, ⟨t', rfl⟩⟩ := vals2 r
  refine max_two_ints (I.ok.hd hc) fun h' tk k => ⟨_, H, I.kept k, ?_, q⟩
  by_cases hj : j > i
  · rw [if_pos hj, if_pos hj]; exact ⟨_, rfl⟩
  · rw [if_neg hj, if_neg hj]; exact ⟨_, rfl⟩
def LenV (K : PySem.W.Frag) (x : V) (H : Hp) (n : Nat) : Prop :=
  match x with
  | .str y => y.length ≤ sizeLine ∧ n = y.length
  | .byt y => y.size ≤ sizeLine ∧ n = y.size
  | .ref p => (∃ xs, SqL K H p xs ∧ n = xs.length) ∨ ∃ xs, SqT K H p xs ∧ n = xs.length
  | _ => False
theorem call_len : CallR X (.builtin "len") (fun xs H Q => ∃ x n, xs = [x] ∧ LenV X.K x H n ∧ Q (.int n) H) := by
  intro pins s σ H xs us Q I r h
  obtain ⟨x, n, rfl, e, q⟩ := h
  obtain ⟨u, rfl, rx⟩ := vals1 r
  have hl := line63
  have hs : sizeLine = 16777216 := sizeLine_eq
  cases x with
  | str y =>
    obtain ⟨t, rfl⟩ := rx
    obtain ⟨hy, e'⟩ : y.length ≤ sizeLine ∧ n = y.length := e
    subst e'
    exact len_str (by omega) ⟨.int _, H, I.tok _, ⟨_, rfl⟩, q⟩
  | byt y =>
    obtain ⟨t, rfl⟩ := rx
    obtain ⟨hy, e'⟩ : y.size ≤ sizeLine ∧ n = y.size := e
    subst e'
    exact PySem.W.len_bytes (by omega) ⟨.int _, H, I.tok _, ⟨_, rfl⟩, q⟩
  | ref p =>
    cases rx
    have e' : (∃ xs, SqL X.K H p xs ∧ n = xs.length) ∨ ∃ xs, SqT X.K H p xs ∧ n = xs.length := e
    rcases e' with ⟨xs, hx, e'⟩ | ⟨xs, hx, e'⟩
    · subst e'
      obtain ⟨its, r', pl, hz⟩ := I.list hx
      have hlen := r'.length
      exact Calls.call_len_list pl.isList (by simp only [List.size_toArray]; omega) ⟨.int xs.length, H, I.tok _, ⟨_, by simp only [List.size_toArray]; rw [hlen]⟩, q⟩
    · subst e'
      obtain ⟨its, r', pl, hz⟩ := I.tuple hx
      have hlen := r'.length
      exact len_tuple pl (by simp only [List.size_toArray]; omega) ⟨.int xs.length, H, I.tok _, ⟨_, by simp only [List.size_toArray]; rw [hlen]⟩, q⟩
  | _ => exact (show False from e).elim
end
structure ObjM (h : Heap) (x dx C : Addr) (mA : Str → Option Value) : Prop where
  obj : h.get? x = some (PySem.W.instObj C dx)
  ns : h.Ns1 dx mA
  ne : dx ≠ x
theorem lookIn_ns {h : Heap} {dx : Addr} {mA : Str → Option Value} (n : h.Ns1 dx mA) : ∃ od, h.get? dx = some od ∧ ∀ name, PySem.W.lookIn name od = some (mA name) := by
  obtain ⟨o, es, ep, ho, hd, hk, _, hm⟩ := n
  refine ⟨o, ho, fun name => ?_⟩
  have e := hm name
  unfold nsFind findBy at e
  rw [← Array.find?_toList] at e
  unfold PySem.W.lookIn
  rw [hd]
  dsimp only
  split
  · rename_i y q
    rw [q] at e
    exact congrArg some e
  · rename_i q
    rw [q] at e
    have a : es.toList.any (·.refKey) = false := by
      rw [List.any_eq_false]
      intro y hy
      obtain ⟨z, t, hkey⟩ := hk y (Array.mem_toList_iff.mp hy)
      simp [DictEntry.refKey, hkey]
    have a' : ¬ es.toList.any (·.refKey) = true := by rw [a]; exact Bool.false_ne_true
    rw [if_neg a']
    exact congrArg some e
theorem ObjM.look {h : Heap} {x dx C : Addr} {mA : Str → Option Value} (I : ObjM h x dx C mA) : ∃ od, PySem.W.InstAt h x (PySem.W.instObj C dx) C (some od) ∧ ∀ name, PySem.W.lookIn name od = some (mA name) :=
  let ⟨od, ho, hl⟩ := lookIn_ns I.ns
  ⟨od, ⟨I.obj, rfl, rfl, ho⟩, hl⟩
def putF (f : Str) (v : V) : List (Str × V) → List (Str × V)
  | [] => [(f, v)]
  | (g, x) :: r => if g = f then (g, v) :: r else (g, x) :: putF f v r
theorem lookup_putF (f g : Str) (v : V) : ∀ fs : List (Str × V), (putF f v fs).lookup g = if g = f then some v else fs.lookup g
  | [] => by
    show List.lookup g [(f, v)] = _
    by_cases h : g = f
    · have hb : (g == f) = true := beq_iff_eq.mpr h
      simp only [List.lookup, hb, if_pos h]
    · have hb : (g == f) = false := beq_eq_false_iff_ne.mpr h
      simp only [List.lookup, hb, if_neg h]
  | (k, x) :: r => by
    have ih := lookup_putF f g v r
    rw [show putF f v ((k, x) :: r) = (if k = f then (k, v) :: r else (k, x) :: putF f v r) from rfl]
    by_cases hk : k = f
    · rw [if_pos hk]
      by_cases h : g = k
      · have hb : (g == k) = true := beq_iff_eq.mpr h
        simp only [List.lookup, hb, if_pos (h.trans hk)]
      · have hb : (g == k) = false := beq_eq_false_iff_ne.mpr h
        simp only [List.lookup, hb, if_neg (fun e : g = f => h (e.trans hk.symm))]
    · rw [if_neg hk]
      by_cases h : g = k
      · have hb : (g == k) = true := beq_iff_eq.mpr h
        simp only [List.lookup, hb, if_neg (fun e : g = f => hk (h.symm.trans e))]
      · have hb : (g == k) = false := beq_eq_false_iff_ne.mpr h
        simp only [List.lookup, hb]
        exact ih
theorem keys_putF (f : Str) (v : V) : ∀ fs : List (Str × V), f ∈ (putF f v fs).map (·.1) ∧ ∀ g, g ∈ fs.map (·.1) → g ∈ (putF f v fs).map (·.1)
  | [] => ⟨by simp [putF], fun g h => by simp at h⟩
  | (k, x) :: r => by
    obtain ⟨i1, i2⟩ := keys_putF f v r
    rw [show putF f v ((k, x) :: r) = (if k = f then (k, v) :: r else (k, x) :: putF f v r) from rfl]
    by_cases hk : k = f
    · rw [if_pos hk]
      subst hk
      exact ⟨by simp, fun g h => by simpa using h⟩
    · rw [if_neg hk]
      refine ⟨?_, fun g h => ?_⟩
      · rw [List.map_cons]
        exact List.mem_cons_of_mem _ i1
      · rw [List.map_cons] at h ⊢
        rcases List.mem_cons.mp h with e | e
        · exact List.mem_cons.mpr (.inl e)
        · exact List.mem_cons_of_mem _ (i2 g e)
theorem length_putF (f : Str) (v : V) : ∀ fs : List (Str × V), (putF f v fs).length ≤ fs.length + 1
  | [] => by simp [putF]
  | (k, x) :: r => by
    have ih := length_putF f v r
    rw [show putF f v ((k, x) :: r) = (if k = f then (k, v) :: r else (k, x) :: putF f v r) from rfl]
    by_cases hk : k = f
    · rw [if_pos hk, List.length_cons, List.length_cons]; omega
    · rw [if_neg hk, List.length_cons, List.length_cons]; omega
theorem RelO.some_of {v : V} {o : Option Value} (r : RelO (some v) o) : ∃ u, o = some u ∧ RelV v u := by
  cases o with
  | none => exact (show False from r).elim
  | some u => exact ⟨u, rfl, r⟩
theorem handed_of {v : V} {u : Value} (r : RelV v u) : PySem.W.handedIn u = true := by
  cases v with
  | non => cases (show u = Value.none from r); rfl
  | bl b => cases (show u = Value.bool b from r); rfl
  | int i => obtain ⟨t, e⟩ := (show ∃ t, u = Value.int i t from r); cases e; rfl
  | str x => obtain ⟨t, e⟩ := (show ∃ t, u = Value.str x t from r); cases e; rfl
  | byt b => obtain ⟨t, e⟩ := (show ∃ t, u = Value.bytes b t from r); cases e; rfl
  | flt b => obtain ⟨t, e⟩ := (show ∃ t, u = Value.float b t from r); cases e; rfl
  | ref a => cases (show u = Value.ref a from r); rfl
  | ty n => cases (show u = Value.type n from r); rfl
section
variable {P : Program} {w : World} {H H' : Hp} {h h' : Heap} {a C dx : Addr} {fs fs' : List (Str × V)}
theorem ins_get (hok : HOk P w H h) (e : H a = some (.ins C dx fs)) : ∃ mA, ObjM h a dx C mA ∧ (∀ f, RelO (fs.lookup f) (mA f)) ∧ PySem.Within mA (fs.map (·.1)) ∧ fs.length ≤ 1000 ∧ H dx = some (.own a) := by
  obtain ⟨d, z, ne, ob, mA, n, r, q⟩ := (show ObjOk P w H h a (.ins C dx fs) from hok a _ e)
  exact ⟨mA, ⟨ob, n, ne⟩, r, q, z, d⟩
end
structure Cls (K : PySem.W.Frag) (C : Addr) : Prop where
  pg : PySem.W.plainGet K C Str.empty = true
  hd : PySem.W.hasDictIn K C = true
  po : PySem.W.plainOver K C = true
  sa : PySem.W.findIn K (.ref C) "__setattr__" = some (some (.builtin "object.__setattr__"))
theorem Cls.get {K : PySem.W.Frag} {C : Addr} (c : Cls K C) (f : Str) : PySem.W.plainGet K C f = true := c.pg
def NoAttr (K : PySem.W.Frag) (C : Addr) (f : Str) : Prop := PySem.W.findIn K (.ref C) f = some none
theorem NoAttr.taker {K : PySem.W.Frag} {C : Addr} {f : Str} (n : NoAttr K C f) : PySem.W.takerIn K C f = some none := by
  unfold PySem.W.takerIn
  rw [show PySem.W.findIn K (.ref C) f = some none from n]
  rfl
structure Meth (K : PySem.W.Frag) (C : Addr) (m : Str) (f : Addr) : Prop where
  at_ : PySem.W.findIn K (.ref C) m = some (some (.ref f))
  fn : PySem.W.isFn K (.ref f) = true
  kp : PySem.W.keepIn K (.ref f) = true
section
variable {X : Cx} {pins : List (Addr × Obj)} {σ : St} {H : Hp} {s : Shared} {a C dx : Addr} {fs : List (Str × V)} {f : Str} {v : V} {A : Around} {E : Value → Shared → Prop}
theorem Inv.made (I : Inv X pins σ H s) : Inv X pins σ (upd (upd H s.heap.objs.size (.own (s.heap.objs.size + 1))) (s.heap.objs.size + 1) (.ins C s.heap.objs.size []))
    { s with heap := (s.heap.push PySem.W.emptyDict).push (PySem.W.instObj C s.heap.objs.size) } := by
  have e1 : (s.heap.push PySem.W.emptyDict).get? s.heap.objs.size = some PySem.W.emptyDict := Heap.get?_push_size s.heap rfl
  have e2 : ((s.heap.push PySem.W.emptyDict).push (PySem.W.instObj C s.heap.objs.size)).get? (s.heap.objs.size + 1) = some (PySem.W.instObj C s.heap.objs.size) := by
    have := Heap.get?_push_size (s.heap.push PySem.W.emptyDict) (o := PySem.W.instObj C s.heap.objs.size) rfl
    rwa [Heap.size_push] at this
  have e3 : (s.heap.push PySem.W.emptyDict).Ns s.heap.objs.size (fun _ => none) := ⟨PySem.W.emptyDict, #[], _, e1, rfl, (fun e he => absurd he (by simp)), fun _ => rfl⟩
  have I1 := I.laid (a := s.heap.objs.size) (o := .own (s.heap.objs.size + 1)) (h' := s.heap.push PySem.W.emptyDict) (t' := s.toks) (fun b u q => Heap.get?_push_of_some _ q) (Nat.le_refl _) ⟨_, e1⟩
  refine I1.laid (a := s.heap.objs.size + 1) (o := .ins C s.heap.objs.size []) (t' := s.toks) (fun b u q => Heap.get?_push_of_some _ q) (Nat.le_of_eq (Heap.size_push _ _)) ?_
  have ne : s.heap.objs.size ≠ s.heap.objs.size + 1 := Nat.ne_of_lt (Nat.lt_succ_self _)
  refine ⟨by rw [upd_ne ne, upd_same], Nat.zero_le _, ne, e2, fun _ => none, (Heap.Ns1.of_empty e3).at fun o q => Heap.get?_push_of_some _ q, fun _ => True.intro, fun y hy => absurd rfl hy⟩
theorem attr_of {prog : Program} {w : World} {env : Env} {e : Expr} {f : Str} {pos : Pos} {s : Shared} {Q : Value → Shared → Prop} (hb : attributeBase e f env (eval e env) = eval e env)
    (h : wpAny (model prog w) A (eval e env) (fun o s₁ => wpAny (model prog w) A (getAttr o f true) Q E s₁) E s) : wpAny (model prog w) A (eval (.Attribute e f pos) env) Q E s :=
  Attribute_any_ h (by rw [arm_eval_Attribute, hb])
end
section
variable {X : Cx} {pins : List (Addr × Obj)} {σ : St} {H : Hp} {s : Shared} {A : Around} {E : Value → Shared → Prop} {Q : Value → Shared → Prop} {c : Value} {b : Bool}
inductive TyOf (K : PySem.W.Frag) (H : Hp) : V → Value → Prop where
  | non : TyOf K H .non (.type "NoneType")
  | bl (x : Bool) : TyOf K H (.bl x) (.type "bool")
  | int (i : Int) : TyOf K H (.int i) (.type "int")
  | str (x : Str) : TyOf K H (.str x) (.type "str")
  | flt (x : UInt64) : TyOf K H (.flt x) (.type "float")
  | lst {a : Addr} {xs : List V} (e : H a = some (.lst xs)) : TyOf K H (.ref a) (.type "list")
  | frz {a : Addr} {o : Obj} {xs : List V} (e : H a = some (.frz o (.lst xs))) : TyOf K H (.ref a) (.type "list")
  | tup {a : Addr} {xs : List V} (e : H a = some (.tup xs)) : TyOf K H (.ref a) (.type "tuple")
  | dK {a : Addr} {kvs : List (Key × V)} (e : H a = some (.dK kvs)) : TyOf K H (.ref a) (.type "dict")
  | dT {a : Addr} {kvs : List (List Key × V)} (e : H a = some (.dT kvs)) : TyOf K H (.ref a) (.type "dict")
  | ins {a C dx : Addr} {fs : List (Str × V)} (e : H a = some (.ins C dx fs)) (cl : Cls K C) (ha : PySem.W.findIn K (.ref C) "__class__" = some (some (.builtin "object.__class__")))
      (hn : PySem.W.specialIn K (.builtin "object.__class__") "__get__" = some (some (.builtin "getset_descriptor.__get__"))) (htk : PySem.W.takesIn K (.builtin "object.__class__") = some true)
      (hm : PySem.W.mroIn K C (.type "object") = some true) : TyOf K H (.ref a) (.ref C)
theorem isinst_ok {x : V} {u t : Value} (I : Inv X pins σ H s) (rx : RelV x u) (ty : TyOf X.K H x t) (e : PySem.W.kitOne X.K t c = some b) (h : ∀ tk, Q (.bool b) { s with toks := tk }) :
    wpAny (model X.prog X.w) A (call (.builtin "isinstance") [u, c]) Q E s := by
  cases ty with
  | non => cases (show u = Value.none from rx); exact PySem.W.kia_one PySem.W.kitx_none I.kIn True.intro e (fun z => nomatch z) h
  | bl y => cases (show u = Value.bool y from rx); exact PySem.W.kia_one PySem.W.kitx_bool I.kIn True.intro e (fun z => nomatch z) h
  | int i => obtain ⟨t, q⟩ := (show ∃ t, u = Value.int i t from rx); cases q; exact PySem.W.kia_one PySem.W.kitx_int I.kIn True.intro e (fun z => nomatch z) h
  | str y => obtain ⟨t, q⟩ := (show ∃ t, u = Value.str y t from rx); cases q; exact PySem.W.kia_one PySem.W.kitx_str I.kIn True.intro e (fun z => nomatch z) h
  | flt y => obtain ⟨t, q⟩ := (show ∃ t, u = Value.float y t from rx); cases q; exact PySem.W.kia_one PySem.W.kitx_float I.kIn True.intro e (fun z => nomatch z) h
  | @lst a xs ea =>
    cases (show u = Value.ref a from rx)
    obtain ⟨_, _, n, _, h1⟩ := (show ObjOk X.prog X.w H s.heap a (.lst xs) from I.hok a _ ea)
    exact PySem.W.kia_one PySem.W.kitx_list I.kIn ⟨_, h1, rfl⟩ e (fun z => nomatch z) h
  | @frz a ob xs ea =>
    cases (show u = Value.ref a from rx)
    obtain ⟨_, _, _, n, _, h1⟩ := (show ObjOk X.prog X.w H s.heap a (.frz ob (.lst xs)) from I.hok a _ ea)
    exact PySem.W.kia_one PySem.W.kitx_list I.kIn ⟨_, h1, rfl⟩ e (fun z => nomatch z) h
  | @tup a xs ea =>
    cases (show u = Value.ref a from rx)
    obtain ⟨_, _, _, p⟩ := (show ObjOk X.prog X.w H s.heap a (.tup xs) from I.hok a _ ea)
    obtain ⟨o, h1, h2, _⟩ := p
    exact PySem.W.kia_one PySem.W.kitx_tuple I.kIn ⟨o, h1, h2⟩ e (fun z => nomatch z) h
  | @dK a kvs ea =>
    cases (show u = Value.ref a from rx)
    obtain ⟨_, _, vs, _, p⟩ := (show ObjOk X.prog X.w H s.heap a (.dK kvs) from I.hok a _ ea)
    obtain ⟨o, es, ep, h1, h2, _⟩ := p
    exact PySem.W.kia_one PySem.W.kitx_dict I.kIn ⟨o, h1, h2.1⟩ e (fun z => nomatch z) h
  | @dT a kvs ea =>
    cases (show u = Value.ref a from rx)
    obtain ⟨_, _, xs, _, o, es, ep, h1, h2, _⟩ := (show ObjOk X.prog X.w H s.heap a (.dT kvs) from I.hok a _ ea)
    exact PySem.W.kia_one PySem.W.kitx_dict I.kIn ⟨o, h1, h2.1⟩ e (fun z => nomatch z) h
  | @ins a C dx fs ea cl ha hn htk hm =>
    cases (show u = Value.ref a from rx)
    obtain ⟨mA, O, _⟩ := ins_get I.hok ea
    obtain ⟨od, J, _⟩ := O.look
    exact PySem.W.kia_one (PySem.W.kitx_own (cl.get _) cl.hd ha hn htk hm) I.kIn J e (fun z => nomatch z) h
end
structure Room (k : Nat) (A : Around) : Prop where
  hd : A.handled = none
  dp : A.depth + 3 * k + 5 < recursionLimit
  un : A.units + 16 * k + 200 < cLine
  gd : A.guards = some []
theorem Room.mono {j k : Nat} {A : Around} (r : Room k A) (h : j ≤ k) : Room j A := ⟨r.hd, by have := r.dp; omega, by have := r.un; omega, r.gd⟩
theorem Room.deeper {k : Nat} {A : Around} (r : Room (k + 1) A) (env : Env) : Room k (A.deeper env) :=
  ⟨r.hd, by have := r.dp; show A.depth + 1 + 3 * k + 5 < _; omega, by have := r.un; show A.units + 3 + 16 * k + 200 < _; omega, r.gd⟩
theorem make_depth {A : Around} {C : Addr} {us : List Value} {kw : List (Str × Value)} : (A.under (.builtin "type.__call__" ⟨.ref C :: us, kw⟩)).depth = A.depth + 1 := by
  first | rfl | simp [Around.under, Code.weight, Code.isCreation, Code.isGuard, Code.isCaller, Code.frames, Code.isFrame, guardIds]
theorem make_units {A : Around} {C : Addr} {us : List Value} {kw : List (Str × Value)} : (A.under (.builtin "type.__call__" ⟨.ref C :: us, kw⟩)).units = A.units + 1 := by
  first | rfl | simp [Around.under, Code.cUnits, Code.frames, Code.isFrame]
theorem Room.make {k : Nat} {A : Around} (r : Room (k + 1) A) (C : Addr) (us : List Value) (kw : List (Str × Value)) : Room k (A.under (.builtin "type.__call__" ⟨.ref C :: us, kw⟩)) :=
  ⟨r.hd, by have := r.dp; rw [make_depth]; omega, by have := r.un; rw [make_units]; omega, by first | exact r.gd | (simp [Around.under, Code.guards, Code.isGuard, guardIds, pushGuards]; exact r.gd)⟩
theorem Room.depth {k : Nat} {A : Around} (r : Room k A) : A.depth < recursionLimit := by have := r.dp; omega
def tNil : TA := fun _ H Q => Q [] H
def tCons (ta : TE) (tr : TA) : TA := fun σ H Q => ta σ H fun x H1 => tr σ H1 fun xs H2 => Q (x :: xs) H2
section
variable {X : Cx} {e : Expr} {es : List Expr} {te : TE} {t : TA} {pos : Pos}
theorem pa_nil : PA X [] tNil := fun _ _ _ _ H Q I h => Calls.spliced_nil ⟨[], H, I, .nil, h⟩
theorem pa_cons (ha : PE X e te) (hr : PA X es t) (hs : starEach (e :: es) X.env = (false, eval e X.env) :: starEach es X.env := by rfl) : PA X (e :: es) (tCons te t) := by
  intro pos pins s σ H Q I h
  rw [hs]
  show wpAny _ _ (spliced ((false, eval e X.env) :: backTo pos (starEach es X.env))) _ _ s
  refine Calls.spliced_cons (thn (ha pins s σ H _ I h) fun u s1 ⟨x, H1, I1, r1, q1⟩ => ?_)
  exact thn (hr pos pins s1 σ H1 _ I1 q1) fun us s2 ⟨xs, H2, I2, r2, q2⟩ => ⟨x :: xs, H2, I2, .cons r1 r2, q2⟩
end
abbrev Sp := List V → Hp → VK → XK → Prop
abbrev CXT := List Env → Hp → Shared → XK → Value → Shared → Prop
structure Env0 (P : Program) (w : World) (K : PySem.W.Frag) (mg : Str → Option Value) (base : Heap) (A : Around) (outer : List Env) (s : Shared) (H : Hp) : Prop where
  frames : A.frames = some outer
  mod : Mod K mg base
  bs : ∀ b o, base.get? b = some o → s.heap.get? b = some o ∧ H b = none
  bsz : base.objs.size ≤ s.heap.objs.size
  funs : s.heap.FunFrames base outer
  frf : ∀ b ∈ frs outer, H b = none
  hok : HOk P w H s.heap
  bare : AllBare s.gens
def CE (outer : List Env) (P : Program) (w : World) (H : Hp) (s : Shared) (Q : VK) (u : Value) (s' : Shared) : Prop :=
  ∃ v H', s'.os = s.os ∧ AllBare s'.gens ∧ Un (frs outer) [] H H' s.heap s'.heap ∧ HOk P w H' s'.heap ∧ RelV v u ∧ Q v H'
def CR (CX : CXT) (outer : List Env) (P : Program) (w : World) (H : Hp) (s : Shared) (Q : VK) (E : XK) (r : Result) (s' : Shared) : Prop :=
  match r with
  | .ok (.ret u) => CE outer P w H s Q u s'
  | .ok _ => False
  | .error e => CX outer H s E e s'
structure FnOk (P : Program) (w : World) (K : PySem.W.Frag) (mg : Str → Option Value) (base : Heap) (CX : CXT) (k : Nat) (f : Addr) (fd : FuncData) (ps : List Str) (sp : Sp) : Prop where
  len : ∀ vs H Q E, sp vs H Q E → vs.length = ps.length
  run : ∀ (A : Around) (outer : List Env) (s : Shared) (H : Hp) (args : Args) (us : List Value) (vs : List V) (Q : VK) (E : XK), Room k A → Env0 P w K mg base A outer s H → BindsTo s fd args (ps.zip us) → Vals vs us → sp vs H Q E →
    codeAny (model P w) A (.call (.ref f) args) (CR CX outer P w H s Q E) s
theorem FnOk.imp {P : Program} {w : World} {K : PySem.W.Frag} {mg : Str → Option Value} {base : Heap} {CX : CXT} {k : Nat} {f : Addr} {fd : FuncData} {ps : List Str} {sp sp' : Sp} (F : FnOk P w K mg base CX k f fd ps sp)
    (h : ∀ vs H Q E, sp' vs H Q E → sp vs H Q E) : FnOk P w K mg base CX k f fd ps sp' :=
  ⟨fun vs H Q E q => F.len vs H Q E (h _ _ _ _ q), fun A outer s H args us vs Q E hr he hb hv hs => F.run A outer s H args us vs Q E hr he hb hv (h _ _ _ _ hs)⟩
theorem Env0.make {P : Program} {w : World} {K : PySem.W.Frag} {mg : Str → Option Value} {base : Heap} {A : Around} {outer : List Env} {s : Shared} {H : Hp} (e : Env0 P w K mg base A outer s H) (C : Addr) (us : List Value) (kw : List (Str × Value)) :
    Env0 P w K mg base (A.under (.builtin "type.__call__" ⟨.ref C :: us, kw⟩)) outer s H := ⟨by first | exact e.frames | (simpa [Around.under, Code.envs, Code.isFrame, pushEnvs] using e.frames), e.mod, e.bs, e.bsz, e.funs, e.frf, e.hok, e.bare⟩
section
variable {X : Cx} {pins : List (Addr × Obj)} {σ : St} {H : Hp} {s s' : Shared}
theorem Inv.env0 (I : Inv X pins σ H s) : Env0 X.prog X.w X.K X.mg X.base X.A X.stack s H :=
  ⟨I.ok.frames, I.ok.mod, I.bs, Nat.le_trans I.ok.bsz I.sz, I.stack, I.stkFree, I.hok, I.bare⟩
theorem Inv.after {Q : VK} {u : Value} (I : Inv X pins σ H s) (h : CE X.stack X.prog X.w H s Q u s') : EP X pins σ Q u s' := by
  obtain ⟨v, H', os, bare, un, hok, r, q⟩ := h
  obtain ⟨hh, g, d, t, os'⟩ := s'
  obtain rfl : os' = s.os := os
  exact ⟨v, H', I.call (h' := hh) (g' := g) (d' := d) (t' := t) (ch := []) un hok bare (fun b z => absurd z (by simp)), r, q⟩
end
def tCall (sp : Sp) (dvs : List V) (E : XK) (t : TA) : TE := fun σ H Q => t σ H fun vs H1 => sp (vs ++ dvs) H1 Q E
def Binds (K : PySem.W.Frag) (fd : FuncData) (ps : List Str) (ds : List Value) : Prop :=
  ∀ (s : Shared) (us : List Value), K.In s.heap → (us ++ ds).length = ps.length → BindsTo s fd ⟨us, []⟩ (ps.zip (us ++ ds))
theorem Binds.all {K : PySem.W.Frag} {fd : FuncData} {ps : List Str} (h : ∀ us : List Value, us.length = ps.length → bindArgs fd ⟨us, []⟩ = pure (ps.zip us)) : Binds K fd ps [] := fun s us _ hl => by
  rw [List.append_nil] at hl ⊢
  exact .of_eq (h us hl)
def Passes (CX : CXT) (X : Cx) (E : XK) : Prop := ∀ (pins : List (Addr × Obj)) (σ : St) (H : Hp) (s : Shared) (e : Value) (s' : Shared), Inv X pins σ H s → CX X.stack H s E e s' → X.xe e s'
section
variable {X : Cx} {CX : CXT} {k : Nat} {f C : Addr} {fd : FuncData} {ps : List Str} {sp : Sp} {dvs : List V} {ds : List Value} {E : XK} {x m : Str} {p pos apos : Pos} {e o : Expr} {es : List Expr} {ta : TE} {t : TA}
theorem run_fn {pins : List (Addr × Obj)} {σ : St} {H : Hp} {s : Shared} {Q : VK} {us : List Value} {vs : List V} (F : FnOk X.prog X.w X.K X.mg X.base CX k f fd ps sp) (hr : Room k X.A) (hb : Binds X.K fd ps ds) (hd : Vals dvs ds) (hx : Passes CX X E)
    (I : Inv X pins σ H s) (r : Vals vs us) (h : sp (vs ++ dvs) H Q E) : wpAny (model X.prog X.w) X.A (call (.ref f) us) (EP X pins σ Q) X.xe s := by
  have r2 : Vals (vs ++ dvs) (us ++ ds) := r.append hd
  have hl : (us ++ ds).length = ps.length := by rw [← r2.length]; exact F.len _ _ _ _ h
  refine wpAny_call (codeAny_mono (F.run X.A X.stack s H ⟨us, []⟩ (us ++ ds) (vs ++ dvs) Q E hr I.env0 (hb s us I.kIn hl) r2 h) fun r s' hq => ?_)
  cases r with
  | error e => exact hx pins σ H s e s' I hq
  | ok fl =>
    cases fl with
    | ret u => exact I.after hq
    | next => exact False.elim hq
    | brk => exact False.elim hq
    | cont => exact False.elim hq
theorem pe_call (F : FnOk X.prog X.w X.K X.mg X.base CX k f fd ps sp) (hr : Room k X.A) (hg : Gl X x) (hm : X.mg x = some (.ref f)) (hk : PySem.W.keepIn X.K (.ref f) = true) (hb : Binds X.K fd ps ds) (hd : Vals dvs ds) (hx : Passes CX X E)
    (ha : PA X (e :: es) t) (hdb : (x == ("__debug__" : Str)) = false := by decide) (he : starEach (e :: es) X.env = (false, eval e X.env) :: starEach es X.env := by rfl) (hpl : (backTo pos (starEach es X.env)).any (·.1) = false := by rfl) :
    PE X (.Call (.Name x p) (e :: es) [] pos) (tCall sp dvs E t) := by
  intro pins s σ H Q I h
  refine wpAny_Call_Name_kw (ld_glob I hg hm ?_ hdb)
  refine PySem.W.callWith_K (h₀ := X.base) I.ok.mod.kin hk (thn (ha pos pins s σ H _ I h) fun us s1 ⟨vs, H1, I1, r, q⟩ => ⟨I1.kIn, ?_⟩) he hpl
  exact run_fn F hr hb hd hx I1 r q
structure Mk (K : PySem.W.Frag) (C f : Addr) : Prop where
  makes : PySem.W.makesIn K C = true
  init : PySem.W.findIn K (.ref C) "__init__" = some (some (.ref f))
  fn : PySem.W.isFn K (.ref f) = true
  kp : PySem.W.keepIn K (.ref C) = true
end
structure FnScope (N P : List Str) (sc : Scope) : Prop where
  kind : sc.kind = .function
  co : sc.isCoroutine = false
  gen : sc.isGenerator = false
  nd : N.Nodup
  pre : N.take P.length = P
  par : ∀ x ∈ P, sc.names.lookup x = some .local ∨ sc.names.lookup x = some .cell
  nofree : ∀ y ∈ sc.names, y.2 ≠ .free
theorem bindL_out {kindOf : Str → Option NameKind} {x : Str} : ∀ {binds : List (Str × Value)} {m : Str → Option Value}, (∀ v, (x, v) ∉ binds) → bindL kindOf binds m x = m x
  | [], _, _ => rfl
  | (n, v) :: r, m, h => by
    unfold bindL
    rw [bindL_out fun w hw => h w (List.mem_cons_of_mem _ hw)]
    split
    · have : x ≠ n := by rintro rfl; exact h v List.mem_cons_self
      simp [this]
    · rfl
theorem bindC_out {kindOf : Str → Option NameKind} {x : Str} : ∀ {binds : List (Str × Value)} {m : Str → Option Value}, (∀ v, (x, v) ∉ binds) → bindC kindOf binds m x = m x
  | [], _, _ => rfl
  | (n, v) :: r, m, h => by
    unfold bindC
    rw [bindC_out fun w hw => h w (List.mem_cons_of_mem _ hw)]
    split
    · rfl
    · have : x ≠ n := by rintro rfl; exact h v List.mem_cons_self
      simp [this]
theorem bindL_get {kindOf : Str → Option NameKind} {x : Str} {v : Value} : ∀ {P : List Str} {vs : List Value} {i : Nat} {m : Str → Option Value}, P.Nodup → P[i]? = some x → vs[i]? = some v → kindOf x = some .local →
    bindL kindOf (P.zip vs) m x = some v
  | [], _, _, _, _, h, _, _ => by simp at h
  | _ :: _, [], _, _, _, _, h, _ => by simp at h
  | p :: P, w :: vs, 0, m, nd, h1, h2, hk => by
    simp at h1 h2; subst h1; subst h2
    show bindL kindOf ((p, w) :: P.zip vs) m p = _
    unfold bindL
    rw [bindL_out fun v hv => (List.nodup_cons.mp nd).1 (List.of_mem_zip hv).1, if_pos hk]
    simp
  | p :: P, w :: vs, i + 1, m, nd, h1, h2, hk => by
    show bindL kindOf ((p, w) :: P.zip vs) m x = _
    unfold bindL
    exact bindL_get (i := i) (List.nodup_cons.mp nd).2 (by simpa using h1) (by simpa using h2) hk
theorem bindC_get {kindOf : Str → Option NameKind} {x : Str} {v : Value} : ∀ {P : List Str} {vs : List Value} {i : Nat} {m : Str → Option Value}, P.Nodup → P[i]? = some x → vs[i]? = some v → kindOf x ≠ some .local →
    bindC kindOf (P.zip vs) m x = some v
  | [], _, _, _, _, h, _, _ => by simp at h
  | _ :: _, [], _, _, _, _, h, _ => by simp at h
  | p :: P, w :: vs, 0, m, nd, h1, h2, hk => by
    simp at h1 h2; subst h1; subst h2
    show bindC kindOf ((p, w) :: P.zip vs) m p = _
    unfold bindC
    rw [bindC_out fun v hv => (List.nodup_cons.mp nd).1 (List.of_mem_zip hv).1, if_neg hk]
    simp
  | p :: P, w :: vs, i + 1, m, nd, h1, h2, hk => by
    show bindC kindOf ((p, w) :: P.zip vs) m x = _
    unfold bindC
    exact bindC_get (i := i) (List.nodup_cons.mp nd).2 (by simpa using h1) (by simpa using h2) hk
def start (N : List Str) (vs : List V) : St := vs.map some ++ List.replicate (N.length - vs.length) none
def cxOf (CX : CXT) (P : Program) (w : World) (K : PySem.W.Frag) (mg : Str → Option Value) (base : Heap) (N : List Str) (qual : Str) (scope : Scope) (f : Addr) (cd : Value) (A : Around) (outer : List Env) (s : Shared) (H : Hp) (E : XK) : Cx where
  prog := P
  w := w
  K := K
  mg := mg
  base := base
  A := A.deeper (envOfC qual scope s.heap.objs.size f cd)
  N := N
  s₀ := s
  H₀ := H
  env := envOfC qual scope s.heap.objs.size f cd
  outer := outer
  stack := envOfC qual scope s.heap.objs.size f cd :: outer
  ex := []
  calm := true
  fn := fun _ => true
  pn := []
  xe := fun e s' => wpAny (model P w) (A.deeper (envOfC qual scope s.heap.objs.size f cd)) (leaving (envOfC qual scope s.heap.objs.size f cd) e) (fun _ s'' => CX outer H s E e s'') (fun e' s'' => CX outer H s E e' s'') s'
theorem cell_has {sc : Scope} {n : Nat} {x : Str} (h : sc.names.lookup x = some .cell) : ∃ c, (cellsFrom n sc.names []).lookup x = some c := by
  have q := PySem.W.cellsFrom_some sc.names n [] (.inl h)
  exact Option.isSome_iff_exists.mp q
theorem inv_start {CX : CXT} {P : Program} {w : World} {K : PySem.W.Frag} {mg : Str → Option Value} {base : Heap} {N ps : List Str} {qual : Str} {scope : Scope} {f : Addr} {cd : Value} {A : Around} {outer : List Env} {s s1 : Shared} {H : Hp} {E : XK} {us : List Value} {vs : List V}
    (S : FnScope N ps scope) (hd : A.handled = none) (e0 : Env0 P w K mg base A outer s H) (hl : vs.length = ps.length) (r : Vals vs us)
    (x : InCallC s s.heap.objs.size (bindL (envOfC qual scope s.heap.objs.size f cd).kindOf (ps.zip us) fun _ => none) (cellsFrom (s.heap.objs.size + 1) scope.names []) (bindC (envOfC qual scope s.heap.objs.size f cd).kindOf (ps.zip us) fun _ => none) s1) :
    Inv (cxOf CX P w K mg base N qual scope f cd A outer s H E) [] (start N vs) H s1 := by
  have hpl : ps.length ≤ N.length := by have := congrArg List.length S.pre; rw [List.length_take] at this; omega
  obtain ⟨h1, tk, rfl, hk⟩ := x.done
  have noA : ∀ b : Addr, b ∉ (cxOf CX P w K mg base N qual scope f cd A outer s H E).ex := fun b z => absurd (show b ∈ ([] : List Addr) from z) (by simp)
  refine ⟨⟨e0.mod, S.kind, rfl, rfl, Nat.le_refl _, fun y z c h1 h2 => ?_, fun y hy => ?_, fun y c _ h => ?_, fun _ => hd, Around.frames_deeper e0.frames, .inr ⟨rfl, rfl⟩, fun b z => absurd z (noA b), e0.bs, e0.bsz, fun b _ _ => noA b, fun b z => absurd z (noA b), e0.funs, e0.frf⟩,
    rfl, e0.bare, Un.kept hk, ⟨_, x.toInCall.ns, fun i y v h1 h2 h3 => ?_⟩, fun y c h => ⟨_, x.cell y c h⟩, e0.hok.fresh (Nat.le_refl _), fun y c h => ?_, fun p hp => absurd (show p ∈ ([] : List (Addr × Obj)) from hp) (by simp), e0.hok.kept hk, ?_⟩
  · exact name_of_addr x.apart (PySem.mem_of_lookup h1) (PySem.mem_of_lookup h2)
  · have hy : scope.names.lookup y = some .cell ∨ scope.names.lookup y = some .free := hy
    rcases hy with hy | hy
    · exact cell_has hy
    · exact absurd rfl (S.nofree _ (PySem.mem_of_lookup hy))
  · exact Nat.le_of_lt (x.above y c (PySem.mem_of_lookup h))
  · have hi : i < vs.length := by
      unfold start at h2
      by_cases hi : i < vs.length
      · exact hi
      · rw [List.getElem?_append_right (by simpa using hi)] at h2
        rw [List.getElem?_replicate] at h2
        split at h2 <;> cases h2
    have ha : vs[i]? = some v := by
      unfold start at h2
      rw [List.getElem?_append_left (by simpa using hi), List.getElem?_map] at h2
      cases e : vs[i]? with
      | none => rw [e] at h2; cases h2
      | some a => rw [e] at h2; cases h2; rfl
    obtain ⟨u, hu, rv⟩ := r.get ha
    have hp : ps[i]? = some y := by
      rw [← S.pre, List.getElem?_take_of_lt (by omega)]; exact h1
    have ndP : ps.Nodup := by rw [← S.pre]; exact S.nd.sublist (List.take_sublist _ _)
    refine ⟨u, rv, ?_⟩
    rcases S.par y (List.mem_of_getElem? hp) with k | k
    · exact .inl ⟨k, bindL_get ndP hp hu k⟩
    · obtain ⟨c, e⟩ := cell_has (n := s.heap.objs.size + 1) k
      refine .inr ⟨.inl k, c, e, ?_⟩
      have q := x.cell y c e
      rw [bindC_get ndP hp hu (by show scope.names.lookup y ≠ _; rw [k]; decide)] at q
      exact q
  · exact e0.hok.fresh (Nat.le_of_lt (x.above y c (PySem.mem_of_lookup h)))
  · unfold start
    show _ = N.length
    rw [List.length_append, List.length_map, List.length_replicate]
    omega
theorem fn_of {CX : CXT} {P : Program} {w : World} {K : PySem.W.Frag} {mg : Str → Option Value} {base : Heap} {k : Nat} {f : Addr} {name qual : Str} {params : Arguments} {body : List Stmt} {scope : Scope} {dV kV doc pm cdv ct oc : Value} {an od : Option Addr}
    {osl : Array (Option Value)} {N ps : List Str} {sp : Sp} (lk : K.lookup f = some ⟨oc, od, .func (PySem.W.fnOf name qual params body scope dV kV doc pm an cdv ct), osl⟩) (hcd : PySem.W.codeIn K cdv qual = true) (S : FnScope N ps scope)
    (len : ∀ vs H Q E, sp vs H Q E → vs.length = ps.length)
    (hbody : ∀ (A : Around) (outer : List Env) (s : Shared) (H : Hp) (vs : List V) (Q : VK) (E : XK), Room k (A.deeper (envOfC qual scope s.heap.objs.size f cdv)) → sp vs H Q E →
      ∃ t, PSs (cxOf CX P w K mg base N qual scope f cdv A outer s H E) body t ∧ t { nx := fun _ H' => Q .non H', rt := Q } (start N vs) H) :
    FnOk P w K mg base CX (k + 1) f (PySem.W.fnOf name qual params body scope dV kV doc pm an cdv ct) ps sp := by
  refine ⟨len, fun A outer s H args us vs Q E hr e0 hb r hsp => ?_⟩
  have hl := len _ _ _ _ hsp
  have KX : K.In s.heap := e0.mod.kin.keeps fun b o e => (e0.bs b o e).1
  have lim : s.heap.NoLimit := e0.mod.nolimit.keeps fun b o e => (e0.bs b o e).1
  have hkind : ∀ y ∈ ps.zip us, scope.names.lookup y.1 = some .local ∨ (scope.names.lookup y.1 = some .cell ∧ ((cellsFrom (s.heap.objs.size + 1) scope.names []).lookup y.1).isSome = true) := fun ⟨n, v⟩ hy => by
    rcases S.par n (List.of_mem_zip hy).1 with q | q
    · exact .inl q
    · exact .inr ⟨q, PySem.W.cellsFrom_some _ _ _ (.inl q)⟩
  refine codeAny_call_function hr.depth (KX _ _ lk) rfl S.co S.gen rfl (PySem.W.codeRec_of KX hcd) (hb _ _ _ _ ?_)
  refine wpAny_newFunctionEnv_cells S.kind hkind fun env he s1 x => ?_
  subst he
  refine ⟨lim.keeps x.toInCall.keep, codeAny_func ?_⟩
  obtain ⟨t, ht, hq⟩ := hbody A outer s H vs Q E (hr.deeper _) hsp
  have I : Inv (cxOf CX P w K mg base N qual scope f cdv A outer s H E) [] (start N vs) H s1 := inv_start S hr.hd e0 hl r x
  refine wpAny_mono (ht [] s1 (start N vs) H _ I hq) (fun fl s' hs => ?_) fun e s' hs => hs
  have fin : ∀ {σ' : St} {H' : Hp} {v : V} {u : Value}, Inv (cxOf CX P w K mg base N qual scope f cdv A outer s H E) [] σ' H' s' → RelV v u → Q v H' → CE outer P w H s Q u s' :=
    fun {σ' H' v u} J rv q => ⟨v, H', J.os, J.bare, J.base, J.hok, rv, q⟩
  cases fl with
  | ret u =>
    obtain ⟨v, σ', H', J, rv, q⟩ := hs
    exact fin J rv q
  | next =>
    obtain ⟨σ', H', J, q⟩ := hs
    exact fin (v := V.non) (u := Value.none) J rfl q
  | brk =>
    obtain ⟨_, _, _, q⟩ := hs
    exact False.elim q
  | cont =>
    obtain ⟨_, _, _, q⟩ := hs
    exact False.elim q
section
variable {X : Cx} {x : Str} {p pos : Pos} {e : Expr} {es : List Expr} {t : TA} {id T : String} {r : List V → Hp → VK → Prop}
def tCB (r : List V → Hp → VK → Prop) (t : TA) : TE := fun σ H Q => t σ H fun vs H1 => r vs H1 Q
theorem pe_callB (hc : CallR X (.builtin id) r) (hg : Gl X x) (hm : X.mg x = none) (hv : bootBuiltins x = some (.builtin id)) (ha : PA X (e :: es) t) (hn : x ≠ "__name__" := by decide) (hdb : (x == ("__debug__" : Str)) = false := by decide)
    (he : starEach (e :: es) X.env = (false, eval e X.env) :: starEach es X.env := by rfl) (hpl : (backTo pos (starEach es X.env)).any (·.1) = false := by rfl) : PE X (.Call (.Name x p) (e :: es) [] pos) (tCB r t) := by
  intro pins s σ H Q I h
  refine wpAny_Call_Name_kw (ld_blt I hg hm hv ?_ hn hdb)
  exact PyProof.Rows.callWith_builtin1 (thn (ha pos pins s σ H _ I h) fun us s1 ⟨vs, H1, I1, r1, q1⟩ => hc pins s1 σ H1 vs us Q I1 r1 q1) he hpl
theorem pe_callTy (hc : CallR X (.type T) r) (hg : Gl X x) (hm : X.mg x = none) (hv : bootBuiltins x = some (.type T)) (ha : PA X (e :: es) t) (hn : x ≠ "__name__" := by decide) (hdb : (x == ("__debug__" : Str)) = false := by decide)
    (he : starEach (e :: es) X.env = (false, eval e X.env) :: starEach es X.env := by rfl) (hpl : (backTo pos (starEach es X.env)).any (·.1) = false := by rfl) : PE X (.Call (.Name x p) (e :: es) [] pos) (tCB r t) := by
  intro pins s σ H Q I h
  refine wpAny_Call_Name_kw (ld_blt I hg hm hv ?_ hn hdb)
  exact PyProof.Rows.callWith_type1 (thn (ha pos pins s σ H _ I h) fun us s1 ⟨vs, H1, I1, r1, q1⟩ => hc pins s1 σ H1 vs us Q I1 r1 q1) he hpl
end
end L2
namespace HT
open PySem PyProof.Rows
section
open PySem.SeqAt
open PySem.AutoSeq1 (wpAny_loadPart')
open PySem.MeetsSeq PySem.MeetsSeq2 PySem.MeetsSeq3
end
section
variable {prog : Program} {w : World} {A : Around} {E : Value → Shared → Prop} {s : Shared}
def sIx (n d : Nat) : Option Int → Nat
  | none => d
  | some v => if v < 0 then (v + (n : Int)).toNat else min v.toNat n
theorem sIx_nat (n d k : Nat) : sIx n d (some (k : Int)) = min k n := by
  show (if (k : Int) < 0 then ((k : Int) + (n : Int)).toNat else min (k : Int).toNat n) = min k n
  rw [if_neg (by omega), Int.toNat_natCast]
end
end HT
namespace L2
open PySem PySem.Spec PyProof.Rows
abbrev TO := St → Hp → (Option Int → Hp → Prop) → Prop
def PO (X : Cx) (e : Option Expr) (t : TO) : Prop :=
  ∀ (pins : List (Addr × Obj)) (s : Shared) (σ : St) (H : Hp) (Q : Option Int → Hp → Prop), Inv X pins σ H s → t σ H Q →
    wpAny (model X.prog X.w) X.A (evalPart e X.env) (fun u s' => ∃ o H', Inv X pins σ H' s' ∧ IsPart u o ∧ Q o H') X.xe s
def tNoPart : TO := fun _ H Q => Q none H
def tPart (t : TE) : TO := fun σ H Q => t σ H fun x H1 => ∃ i, x = .int i ∧ Q (some i) H1
section
variable {X : Cx} {e : Expr} {te : TE} {lo hi : Option Expr} {tl th : TO} {pos p2 : Pos}
theorem po_none : PO X none tNoPart := by
  intro pins s σ H Q I h
  rw [evalPart_none]
  exact wpAny_pure ⟨none, H, I, .none, h⟩
theorem po_some (h : PE X e te) : PO X (some e) (tPart te) := by
  intro pins s σ H Q I hw
  rw [evalPart_some]
  refine thn (h pins s σ H _ I hw) fun u s1 ⟨x, H1, I1, r1, q1⟩ => ?_
  obtain ⟨i, rfl, q⟩ := q1
  obtain ⟨t, rfl⟩ := r1
  exact ⟨some i, H1, I1, .int i t, q⟩
def SlR (X : Cx) (r : V → Option Int → Option Int → Hp → VK → Prop) : Prop :=
  ∀ (pins : List (Addr × Obj)) (s : Shared) (σ : St) (H : Hp) (x : V) (v vl vu : Value) (lo hi : Option Int) (sl : Addr) (Q : VK), Inv X pins σ H s → RelV x v → s.heap.IsSliceOf sl vl vu .none → IsPart vl lo → IsPart vu hi → r x lo hi H Q →
    ∃ T id, typeLookup (.type T) "__getitem__" = pure (some (.builtin id)) ∧ s.TypeIs v T ∧ wpAny (model X.prog X.w) X.A (getItem v (.ref sl)) (EP X pins σ Q) X.xe s
theorem SlR.or {r r' : V → Option Int → Option Int → Hp → VK → Prop} (h : SlR X r) (h' : SlR X r') : SlR X (fun x lo hi H Q => r x lo hi H Q ∨ r' x lo hi H Q) := by
  intro pins s σ H x v vl vu lo hi sl Q I rx hs pl pu q
  rcases q with q | q
  · exact h pins s σ H x v vl vu lo hi sl Q I rx hs pl pu q
  · exact h' pins s σ H x v vl vu lo hi sl Q I rx hs pl pu q
def tSl (r : V → Option Int → Option Int → Hp → VK → Prop) (te : TE) (tl th : TO) : TE := fun σ H Q => te σ H fun x H1 => tl σ H1 fun l H2 => th σ H2 fun u H3 => r x l u H3 Q
theorem pe_slice {r : V → Option Int → Option Int → Hp → VK → Prop} (hr : SlR X r) (he : PE X e te) (hl : PO X lo tl) (hu : PO X hi th) : PE X (.Subscript e (.Slice lo hi none p2) pos) (tSl r te tl th) := by
  intro pins s σ H Q I h
  refine Subscript_ (thn (he pins s σ H _ I h) fun v s1 ⟨x, H1, I1, r1, q1⟩ => ?_)
  refine wpAny_Slice (thn (hl pins s1 σ H1 _ I1 q1) fun vl s2 ⟨l, H2, I2, pl, q2⟩ => thn (hu pins s2 σ H2 _ I2 q2) fun vu s3 ⟨u, H3, I3, pu, q3⟩ => ?_)
  rw [evalPart_none]
  refine wpAny_pure ?_
  have I4 : Inv X pins σ H3 { s3 with heap := s3.heap.push { cls := .type "slice", data := .fields #[vl, vu, .none] } } := I3.kept (t' := s3.toks) fun b ob q => Heap.get?_push_of_some _ q
  obtain ⟨T, id, hT, ht, hg⟩ := hr pins { s3 with heap := s3.heap.push { cls := .type "slice", data := .fields #[vl, vu, .none] } } σ H3 x v vl vu l u s3.heap.objs.size Q I4 r1 (Heap.IsSliceOf.new ..) pl pu q3
  show wpAny (model X.prog X.w) X.A (subscriptTail e (.Slice lo hi none p2) v (.ref s3.heap.objs.size)) (EP X pins σ Q) X.xe { s3 with heap := s3.heap.push { cls := .type "slice", data := .fields #[vl, vu, .none] } }
  exact tail_any (ops := [.ref s3.heap.objs.size, v]) ht hT hg (by with_unfolding_all rfl)
def cutV (xs : List V) (lo hi : Option Int) : List V := (xs.drop (HT.sIx xs.length 0 lo)).take (HT.sIx xs.length xs.length hi - HT.sIx xs.length 0 lo)
theorem cutV_length (xs : List V) (lo hi : Option Int) : (cutV xs lo hi).length ≤ xs.length := by
  unfold cutV
  rw [List.length_take, List.length_drop]
  omega
end
def ixN (n : Nat) (i : Int) : Option Nat := if 0 ≤ i then (if i < n then some i.toNat else none) else if -(n : Int) ≤ i then some (i + n).toNat else none
def atI {α : Type} (xs : List α) (i : Int) : Option α := (ixN xs.length i).bind fun j => xs[j]?
theorem ixN_seq {n : Nat} {i : Int} {j : Nat} (h : ixN n i = some j) : seqIndex? i n = some j ∧ j < n ∧ -(n : Int) ≤ i ∧ i < n := by
  unfold ixN at h
  by_cases h0 : 0 ≤ i
  · rw [if_pos h0] at h
    by_cases h1 : i < n
    · rw [if_pos h1] at h
      have e : i.toNat = j := Option.some.inj h
      exact ⟨by rw [seqIndex_of h0 h1, e], by omega, by omega, h1⟩
    · rw [if_neg h1] at h; cases h
  · rw [if_neg h0] at h
    by_cases h1 : -(n : Int) ≤ i
    · rw [if_pos h1] at h
      have e : (i + n).toNat = j := Option.some.inj h
      exact ⟨by rw [seqIndex_neg (by omega) h1, e], by omega, h1, by omega⟩
    · rw [if_neg h1] at h; cases h
theorem atI_get {α : Type} {xs : List α} {i : Int} {v : α} (h : atI xs i = some v) : ∃ j, seqIndex? i xs.length = some j ∧ xs[j]? = some v ∧ j < xs.length ∧ -(xs.length : Int) ≤ i ∧ i < xs.length := by
  unfold atI at h
  cases e : ixN xs.length i with
  | none => rw [e] at h; cases h
  | some j =>
    rw [e] at h
    obtain ⟨h1, h2, h3, h4⟩ := ixN_seq e
    exact ⟨j, h1, h, h2, h3, h4⟩
theorem atI_nat {α : Type} {xs : List α} {j : Nat} {v : α} (h : xs[j]? = some v) : atI xs (j : Int) = some v := by
  have hj : j < xs.length := (List.getElem?_eq_some_iff.mp h).1
  have e : ixN xs.length (j : Int) = some j := by
    unfold ixN
    rw [if_pos (by omega), if_pos (by omega)]; simp
  unfold atI; rw [e]; exact h
def PlainIx (b : Expr) : Prop := ∀ o i, subscripted b false o i = operate [o, i] (getItem o i)
def IxR (X : Cx) (r : R2) : Prop :=
  ∀ (value slice : Expr) (pins : List (Addr × Obj)) (s : Shared) (σ : St) (H : Hp) (x y : V) (v u : Value) (Q : VK), Inv X pins σ H s → RelV x v → RelV y u → r x y H Q →
    subscripted slice false v u = operate [v, u] (getItem v u) → wpAny (model X.prog X.w) X.A (subscriptTail value slice v u) (EP X pins σ Q) X.xe s
def MtR (X : Cx) (id : String) (r : V → List V → Hp → VK → Prop) : Prop :=
  ∀ (pins : List (Addr × Obj)) (s : Shared) (σ : St) (H : Hp) (x : V) (xs : List V) (v : Value) (us : List Value) (Q : VK), Inv X pins σ H s → RelV x v → Vals xs us → r x xs H Q →
    wpAny (model X.prog X.w) X.A (call (.builtin id) (v :: us)) (EP X pins σ Q) X.xe s
section
variable {X : Cx} {a b : Expr} {ta tb : TE} {pos : Pos}
theorem IxR.or {r r' : R2} (h : IxR X r) (h' : IxR X r') : IxR X (fun x y H Q => r x y H Q ∨ r' x y H Q) := by
  intro value slice pins s σ H x y v u Q I rx ry q hs
  rcases q with q | q
  · exact h value slice pins s σ H x y v u Q I rx ry q hs
  · exact h' value slice pins s σ H x y v u Q I rx ry q hs
theorem MtR.or {id : String} {r r' : V → List V → Hp → VK → Prop} (h : MtR X id r) (h' : MtR X id r') : MtR X id (fun x xs H Q => r x xs H Q ∨ r' x xs H Q) := by
  intro pins s σ H x xs v us Q I rx rs q
  rcases q with q | q
  · exact h pins s σ H x xs v us Q I rx rs q
  · exact h' pins s σ H x xs v us Q I rx rs q
theorem pe_ix {r : R2} (hr : IxR X r) (ha : PE X a ta) (hb : PE X b tb) (hs : PlainIx b) : PE X (.Subscript a b pos) (tOp r ta tb) := by
  intro pins s σ H Q I h
  exact Subscript_ (binT ha hb I h fun v u s2 x y H2 I2 rx ry q => hr a b pins s2 σ H2 x y v u Q I2 rx ry q (hs _ _))
def rIxL (K : PySem.W.Frag) : R2 := fun x y H Q => ∃ p xs i v, x = .ref p ∧ y = .int i ∧ SqL K H p xs ∧ atI xs i = some v ∧ Q v H
def rIxT (K : PySem.W.Frag) : R2 := fun x y H Q => ∃ p xs i v, x = .ref p ∧ y = .int i ∧ SqT K H p xs ∧ atI xs i = some v ∧ Q v H
theorem ix_list : IxR X (rIxL X.K) := by
  intro value slice pins s σ H x y v u Q I rx ry h hs
  obtain ⟨p, xs, i, z, rfl, rfl, hq, he, q⟩ := h
  cases rx
  obtain ⟨t, rfl⟩ := ry
  obtain ⟨its, r, pl, hz⟩ := I.list hq
  obtain ⟨j, h1, h2, h3, h4, h5⟩ := atI_get he
  obtain ⟨w, ew, rw'⟩ := r.get h2
  have hl := r.length
  have hn := line63
  have fin : EP X pins σ Q w s := ⟨z, H, I, rw', q⟩
  by_cases h0 : 0 ≤ i
  · have hj : i.toNat = j := by
      rw [seqIndex_of h0 h5] at h1
      exact Option.some.inj h1
    exact item_listR pl.isList h0 (by omega) (by rw [hj]; simpa using ew) fin hs
  · have hj : (i + (its.toArray.size : Int)).toNat = j := by
      rw [seqIndex_neg (by omega) h4] at h1
      rw [List.size_toArray, ← hl]
      exact Option.some.inj h1
    exact subscriptTail_builtinR (x := w) pl.isList.typeIs slot_list_getitem.lookup
      (wpAny_getItem_list_neg (Q := fun r s' => r = w ∧ EP X pins σ Q r s') pl.isList (by omega) (by rw [List.size_toArray] <;> omega) (by omega) (by rw [hj]; simpa using ew) ⟨rfl, fin⟩) hs
theorem ix_tup : IxR X (rIxT X.K) := by
  intro value slice pins s σ H x y v u Q I rx ry h hs
  obtain ⟨p, xs, i, z, rfl, rfl, hq, he, q⟩ := h
  cases rx
  obtain ⟨t, rfl⟩ := ry
  obtain ⟨its, r, pl, hz⟩ := I.tuple hq
  obtain ⟨j, h1, h2, h3, h4, h5⟩ := atI_get he
  obtain ⟨w, ew, rw'⟩ := r.get h2
  have hl := r.length
  have hn := line63
  have fin : EP X pins σ Q w s := ⟨z, H, I, rw', q⟩
  exact subscriptTail_builtinR (x := w) pl.typeIs slot_tuple_getitem.lookup
    (getItem_tuple (j := j) (Q := fun r s' => r = w ∧ EP X pins σ Q r s') pl (by omega) (by omega) (by rw [List.size_toArray, ← hl]; exact h1) (by simpa using ew) ⟨rfl, fin⟩) hs
theorem Inv.lst {pins : List (Addr × Obj)} {σ : St} {H : Hp} {s : Shared} {p : Addr} {xs : List V} (I : Inv X pins σ H s) (h : H p = some (.lst xs)) :
    ∃ (its : List Value) (n : Nat), Vals xs its ∧ s.heap.get? p = some { cls := .type "list", data := .seq its.toArray n } ∧ xs.length ≤ sizeLine := by
  obtain ⟨z, its, n, r, e⟩ := I.hok p _ h
  exact ⟨its, n, r, e, z⟩
theorem slice_bounds (lo hi : Option Int) (n : Nat) : (sliceBounds lo hi none n).1 = ((HT.sIx n 0 lo : Nat) : Int) ∧ (sliceBounds lo hi none n).2.1 = ((HT.sIx n n hi : Nat) : Int) ∧ (sliceBounds lo hi none n).2.2 = 1 := by
  refine ⟨?_, ?_, rfl⟩
  · cases lo with
    | none => simp [sliceBounds, HT.sIx]
    | some i =>
      simp only [sliceBounds, HT.sIx, Option.getD_none, show (1 : Int) > 0 by decide, if_true]
      by_cases h : i < 0
      · simp only [h, if_true] <;> omega
      · simp only [h, if_false] <;> omega
  · cases hi with
    | none => simp [sliceBounds, HT.sIx]
    | some i =>
      simp only [sliceBounds, HT.sIx, Option.getD_none, show (1 : Int) > 0 by decide, if_true]
      by_cases h : i < 0
      · simp only [h, if_true] <;> omega
      · simp only [h, if_false] <;> omega
theorem slicePick_cut (its : List Value) (lo hi : Option Int) : slicePick its.toArray lo hi none = ((its.drop (HT.sIx its.length 0 lo)).take (HT.sIx its.length its.length hi - HT.sIx its.length 0 lo)).toArray := by
  obtain ⟨h1, h2, h3⟩ := slice_bounds lo hi its.toArray.size
  unfold slicePick
  rw [h1, h2, h3]
  simp only [sliceRange_one, pick_run, List.size_toArray] <;> rfl
def rSlL (K : PySem.W.Frag) : V → Option Int → Option Int → Hp → VK → Prop := fun x lo hi H Q => ∃ a xs, x = .ref a ∧ SqL K H a xs ∧ ∀ p, H p = none → Q (.ref p) (upd H p (.lst (cutV xs lo hi)))
theorem sl_list : SlR X (rSlL X.K) := by
  intro pins s σ H x v vl vu lo hi sl Q I rx hs pl pu h
  obtain ⟨a, xs, rfl, hx, q⟩ := h
  cases rx
  obtain ⟨its, r, ht, hz⟩ := I.list hx
  have hlen := r.length
  refine ⟨"list", _, slot_list_getitem.lookup, ht.isList.typeIs, ?_⟩
  refine wpAny_getItem_list_slice ht.isList hs pl pu .none (by simp) ?_ (by rw [List.size_toArray] <;> omega)
  rw [slicePick_cut, ← hlen]
  refine ⟨.ref s.heap.objs.size, _, I.laid (t' := s.toks) (o := .lst (cutV xs lo hi)) (fun b ob q => Heap.get?_push_of_some _ q) (Nat.le_refl _) ?_, rfl, q _ (I.hok.fresh (Nat.le_refl _))⟩
  exact ⟨Nat.le_trans (cutV_length xs lo hi) hz, _, 0, (r.drop (HT.sIx xs.length 0 lo)).take (HT.sIx xs.length xs.length hi - HT.sIx xs.length 0 lo), Heap.get?_push_size _ rfl⟩
theorem CallR.or {f : Value} {r r' : List V → Hp → VK → Prop} (h : CallR X f r) (h' : CallR X f r') : CallR X f (fun xs H Q => r xs H Q ∨ r' xs H Q) := by
  intro pins s σ H xs us Q I rs q
  rcases q with q | q
  · exact h pins s σ H xs us Q I rs q
  · exact h' pins s σ H xs us Q I rs q
theorem call_list_of : CallR X (.type "list") (fun xs H Q => ∃ p ys, xs = [.ref p] ∧ (SqL X.K H p ys ∨ SqT X.K H p ys) ∧ ∀ l, H l = none → Q (.ref l) (upd H l (.lst ys))) := by
  intro pins s σ H xs us Q I r h
  obtain ⟨p, ys, rfl, hq, q⟩ := h
  obtain ⟨u, rfl, rx⟩ := vals1 r
  cases rx
  have fin : ∀ (its : List Value), Vals ys its → ys.length ≤ sizeLine → ∀ (h' : Heap) (c' : Nat), (∀ b o', s.heap.get? b = some o' → h'.get? b = some o') →
      h'.get? s.heap.objs.size = some { cls := .type "list", dict := none, data := .seq its.toArray c', slots := #[] } → EP X pins σ Q (.ref s.heap.objs.size) { s with heap := h' } := fun its r' hz h' c' kp e =>
    ⟨.ref s.heap.objs.size, _, I.laid (t' := s.toks) kp (Nat.le_refl _) (show ObjOk X.prog X.w _ h' _ (.lst ys) from ⟨hz, its, c', r', e⟩), rfl, q _ (I.hok.fresh (Nat.le_refl _))⟩
  rcases hq with hq | hq
  · obtain ⟨its, r', pl, hz⟩ := I.list hq
    have hlen := r'.length
    obtain ⟨o, ho, hc, n, hd⟩ := pl.isList
    exact call_list_seq p (.inl rfl) ho hc hd (fun h' c' kp e => fin its r' hz h' c' kp e) (by simp only [List.size_toArray] <;> omega)
  · obtain ⟨its, r', pl, hz⟩ := I.tuple hq
    have hlen := r'.length
    obtain ⟨o, ho, hc, n, hd⟩ := pl
    exact call_list_seq p (.inr rfl) ho hc hd (fun h' c' kp e => fin its r' hz h' c' kp e) (by simp only [List.size_toArray] <;> omega)
def tyV (K : PySem.W.Frag) (T : String) (x : V) (H : Hp) : Prop := match x with
  | .str _ => T = "str"
  | .int _ => T = "int"
  | .ref p => (T = "list" ∧ ∃ xs, SqL K H p xs) ∨ (T = "tuple" ∧ ∃ o, K.lookup p = some o ∧ o.cls = .type "tuple" ∧ o.dict = none) ∨
      (T = "dict" ∧ ((∃ kvs, H p = some (.dK kvs)) ∨ ∃ kvs, H p = some (.dT kvs))) ∨ (T = "set" ∧ ∃ S n, H p = some (.set S n))
  | _ => False
theorem tyV_is {pins : List (Addr × Obj)} {σ : St} {H : Hp} {s : Shared} {T : String} {x : V} {v : Value} (I : Inv X pins σ H s) (r : RelV x v) (ty : tyV X.K T x H) :
    s.TypeIs v T ∧ ∀ a, v = .ref a → ∃ ob, s.heap.get? a = some ob ∧ ob.dict = none := by
  cases x with
  | str z =>
    obtain ⟨t, rfl⟩ := r
    cases (show T = "str" from ty)
    exact ⟨typeIs_str s z t, fun _ e => nomatch e⟩
  | int i =>
    obtain ⟨t, rfl⟩ := r
    cases (show T = "int" from ty)
    exact ⟨typeIs_int s i t, fun _ e => nomatch e⟩
  | ref p =>
    cases r
    rcases ty with ⟨rfl, xs, hq⟩ | ⟨rfl, o, hk, hc, hd⟩ | ⟨rfl, hk⟩ | ⟨rfl, S, n, hk⟩
    · obtain ⟨its, _, pl, _⟩ := I.list hq
      refine ⟨pl.isList.typeIs, fun a e => ?_⟩
      cases e
      obtain ⟨o, n, e, c, hd, _⟩ := pl
      exact ⟨o, e, hd⟩
    · refine ⟨⟨o, I.kIn p o hk, hc⟩, fun a e => ?_⟩
      cases e
      exact ⟨o, I.kIn _ o hk, hd⟩
    · have z : ∃ o, s.heap.get? p = some o ∧ o.ExactDict := by
        rcases hk with ⟨kvs, hk⟩ | ⟨kvs, hk⟩
        · obtain ⟨_, _, _, _, o, _, _, e, ex, _⟩ := I.hok p _ hk
          exact ⟨o, e, ex⟩
        · obtain ⟨_, _, _, _, o, _, _, e, ex, _⟩ := I.hok p _ hk
          exact ⟨o, e, ex⟩
      obtain ⟨o, e, ex⟩ := z
      refine ⟨⟨o, e, ex.1⟩, fun a e2 => ?_⟩
      cases e2
      exact ⟨o, e, ex.2.1⟩
    · obtain ⟨o, _, _, _, e, ex, _⟩ := I.hok p _ hk
      refine ⟨⟨o, e, ex.1⟩, fun a e2 => ?_⟩
      cases e2
      exact ⟨o, e, ex.2.1⟩
  | _ => exact False.elim ty
def tBM0 (K : PySem.W.Frag) (T : String) (r : V → List V → Hp → VK → Prop) (to : TE) : TE := fun σ H Q => to σ H fun x H1 => tyV K T x H1 ∧ r x [] H1 Q
def tBM (K : PySem.W.Frag) (T : String) (r : V → List V → Hp → VK → Prop) (to : TE) (t : TA) : TE := fun σ H Q => to σ H fun x H1 => tyV K T x H1 ∧ t σ H1 fun xs H2 => r x xs H2 Q
variable {o e : Expr} {es : List Expr} {to : TE} {t : TA} {name : Str} {apos cpos : Pos} {T id : String} {r : V → List V → Hp → VK → Prop}
theorem pe_bm0 (pa : PlainAttrs T) (slot : Slot T name id) (hty : typeOf (.builtin id) = pure (.type "method_descriptor")) (hm : MtR X id r) (ho : PE X o to)
    (hbase : attributeBase o name X.env (eval o X.env) = eval o X.env := by rfl) (hline : (apos.endLine == cpos.line) = true := by rfl) : PE X (.Call (.Attribute o name apos) [] [] cpos) (tBM0 X.K T r to) := by
  intro pins s σ H Q I h
  refine wpAny_Call_method0_late hbase hline (thn (ho pins s σ H _ I h) fun v s1 ⟨x, H1, I1, r1, ty, q1⟩ => ?_)
  obtain ⟨h1, h2⟩ := tyV_is I1 r1 ty
  exact ⟨T, id, pa, slot, hty, h1, h2, Calls.callWith_builtin rfl (PySem.evalArgs_none (hm pins s1 σ H1 x [] v [] Q I1 r1 .nil q1))⟩
theorem pe_bm (pa : PlainAttrs T) (slot : Slot T name id) (hty : typeOf (.builtin id) = pure (.type "method_descriptor")) (hm : MtR X id r) (ho : PE X o to) (ha : PA X (e :: es) t)
    (hbase : attributeBase o name X.env (eval o X.env) = eval o X.env := by rfl)
    (hfew : ((backTo cpos (starEach (e :: es) X.env)).all (fun x => !x.1) && (backToKw cpos (keywordEach [] X.env)).all (fun x => x.1.isSome)
      && decide ((e :: es).length + ([] : List Keyword).length + (if ([] : List Keyword).isEmpty then 0 else 1) < 30)) = true := by rfl)
    (hline : (apos.endLine == cpos.line) = true := by rfl) (hs : starEach (e :: es) X.env = (false, eval e X.env) :: starEach es X.env := by rfl) (hplain : (backTo cpos (starEach es X.env)).any (·.1) = false := by rfl) :
    PE X (.Call (.Attribute o name apos) (e :: es) [] cpos) (tBM X.K T r to t) := by
  intro pins s σ H Q I h
  refine wpAny_Call_method_late hbase hfew hline rfl (thn (ho pins s σ H _ I h) fun v s1 ⟨x, H1, I1, r1, ty, q1⟩ => ?_)
  obtain ⟨h1, h2⟩ := tyV_is I1 r1 ty
  refine ⟨T, id, pa, slot, hty, h1, h2, ?_⟩
  have hA := ha cpos pins s1 σ H1 _ I1 q1
  rw [hs] at hA ⊢
  refine Calls.callWith_builtin (by show (false || (backTo cpos (starEach es X.env)).any (·.1)) = false; rw [hplain] <;> rfl) (Calls.evalArgs_plain ?_)
  exact thn hA fun us s2 ⟨vs, H2, I2, r2, q2⟩ => hm pins s2 σ H2 x vs v us Q I2 r1 r2 q2
end
def MtM (X : Cx) (id : String) (r : V → List V → Hp → VK → Prop) : Prop :=
  ∀ (pins : List (Addr × Obj)) (s : Shared) (σ : St) (H : Hp) (x : V) (xs : List V) (v : Value) (us : List Value) (Q : VK), Inv X pins σ H s → RelV x v → Vals xs us → r x xs H Q →
    wpAny (model X.prog X.w) X.A (call (.builtin id) (v :: us)) (EP X pins σ Q) X.xe s
theorem Vals.one : ∀ {x : V} {us : List Value}, Vals [x] us → ∃ u, us = [u] ∧ RelV x u
  | _, _, .cons r .nil => ⟨_, rfl, r⟩
theorem Vals.two : ∀ {x y : V} {us : List Value}, Vals [x, y] us → ∃ u v, us = [u, v] ∧ RelV x u ∧ RelV y v
  | _, _, _, .cons r (.cons q .nil) => ⟨_, _, rfl, r, q⟩
theorem Vals.zero : ∀ {us : List Value}, Vals [] us → us = []
  | _, .nil => rfl
theorem Vals.reverse {xs : List V} {us : List Value} (h : Vals xs us) : Vals xs.reverse us.reverse := by
  induction h with
  | nil => exact .nil
  | cons r t ih => rw [List.reverse_cons, List.reverse_cons]; exact Vals.append ih (.cons r .nil)
theorem Vals.rep {xs : List V} {us : List Value} (h : Vals xs us) : ∀ k : Nat, Vals (List.replicate k xs).flatten (List.replicate k us).flatten
  | 0 => .nil
  | k + 1 => by
    rw [List.replicate_succ, List.replicate_succ, List.flatten_cons, List.flatten_cons]
    exact Vals.append h (Vals.rep h k)
theorem foldl_rep (its : List Value) : ∀ (k : Nat) (acc : List Value),
    List.foldl (fun x1 x2 => x1 ++ x2) acc.toArray (List.replicate k its.toArray) = (acc ++ (List.replicate k its).flatten).toArray
  | 0, acc => by simp
  | k + 1, acc => by
    have e : acc.toArray ++ its.toArray = (acc ++ its).toArray := by simp
    have e2 : (acc ++ its) ++ (List.replicate k its).flatten = acc ++ (List.replicate (k + 1) its).flatten := by
      rw [List.replicate_succ, List.flatten_cons, List.append_assoc]
    rw [← e2, ← foldl_rep its k (acc ++ its), ← e, List.replicate_succ, List.foldl_cons]
section
variable {X : Cx} {pins : List (Addr × Obj)} {σ : St} {H : Hp} {s : Shared} {l b : Addr} {xs ys zs : List V}
theorem Inv.lset {its its' : List Value} {n : Nat} {f : Array Value → Array Value} {t' : Nat} (I : Inv X pins σ H s) (hH : H l = some (.lst xs))
    (e : s.heap.get? l = some { cls := .type "list", data := .seq its.toArray n }) (hf : f its.toArray = its'.toArray) (hv : Vals ys its') (hz : ys.length ≤ sizeLine) :
    Inv X pins σ (upd H l (.lst ys)) { s with heap := s.heap.update l (Obj.mapSeq f), toks := t' } := by
  have q := PySem.IsL.update e f
  rw [hf] at q
  refine I.write (x := l) (e := l) (by rw [hH]; exact trivial) (.inl rfl) (fun b' u hb hu => (Heap.get?_update_other s.heap (Obj.mapSeq f) (Ne.symm hb)).trans hu) ⟨_, q⟩ ?_
  exact ⟨hz, its', _, hv, q⟩
theorem Inv.lnew {its : List Value} {t' : Nat} (I : Inv X pins σ H s) (hv : Vals ys its) (hz : ys.length ≤ sizeLine) :
    Inv X pins σ (upd H s.heap.objs.size (.lst ys)) { s with heap := s.heap.push { cls := .type "list", data := .seq its.toArray }, toks := t' } :=
  I.laid (fun _ _ q => Heap.get?_push_of_some _ q) (Nat.le_refl _) ⟨hz, its, 0, hv, Heap.get?_push_size _ rfl⟩
theorem Inv.fresh (I : Inv X pins σ H s) : H s.heap.objs.size = none := I.hok.fresh (Nat.le_refl _)
theorem Inv.lstM (I : Inv X pins σ H s) (hH : H l = some (.lst xs)) : xs.length ≤ sizeLine ∧ ∃ (its : List Value) (n : Nat), Vals xs its ∧ xs.length = its.length ∧ s.heap.get? l = some { cls := .type "list", data := .seq its.toArray n } := by
  obtain ⟨z, its, n, r, e⟩ := I.hok l _ hH
  exact ⟨z, its, n, r, r.length, e⟩
theorem notLongL {n : Nat} (h : n ≤ sizeLine) : Builtin.List.listTooLong n = false := by
  unfold Builtin.List.listTooLong
  exact decide_eq_false (by omega)
end
section
variable {X : Cx}
def rAppend : V → List V → Hp → VK → Prop := fun x vs H Q => ∃ l xs y, x = .ref l ∧ vs = [y] ∧ H l = some (.lst xs) ∧ xs.length < sizeLine ∧ Q .non (upd H l (.lst (xs ++ [y])))
theorem mt_append : MtM X "list.append" rAppend := by
  intro pins s σ H x vs v us Q I rx rv h
  obtain ⟨l, xs, y, rfl, rfl, hH, hz, q⟩ := h
  cases rx
  obtain ⟨u, rfl, ru⟩ := rv.one
  obtain ⟨z, its, n, r, hl, e⟩ := I.lstM hH
  refine call_meets F.slot_list_append ⟨_, e, rfl⟩ F.entry_list_append (F.args_list_append_2 _ _) (PySem.list_append l its.toArray n u (by rw [List.size_toArray]; omega)) ⟨e, ?_⟩
  refine ⟨.non, _, I.lset (its' := its ++ [u]) hH e (by simp) (r.append (.cons ru .nil)) ?_, rfl, q⟩
  rw [List.length_append, List.length_singleton]
  omega
def rExtend : V → List V → Hp → VK → Prop := fun x vs H Q => ∃ l b xs zs, x = .ref l ∧ vs = [.ref b] ∧ H l = some (.lst xs) ∧ H b = some (.lst zs) ∧ xs.length + zs.length ≤ sizeLine ∧ Q .non (upd H l (.lst (xs ++ zs)))
theorem mt_extend : MtM X "list.extend" rExtend := by
  intro pins s σ H x vs v us Q I rx rv h
  obtain ⟨l, b, xs, zs, rfl, rfl, hH, hB, hz, q⟩ := h
  cases rx
  obtain ⟨u, rfl, ru⟩ := rv.one
  cases ru
  obtain ⟨z, its, n, r, hl, e⟩ := I.lstM hH
  obtain ⟨z2, its2, n2, r2, hl2, e2⟩ := I.lstM hB
  have hsz : its.toArray.size + its2.toArray.size ≤ sizeLine := by rw [List.size_toArray, List.size_toArray]; omega
  have hlong : ¬ (!its.toArray.isEmpty && Builtin.List.listTooLong (its.toArray.size + its2.toArray.size)) = true := by
    rw [notLongL hsz, Bool.and_false]
    exact Bool.false_ne_true
  refine call_meets F.slot_list_extend ⟨_, e, rfl⟩ F.entry_list_extend (F.args_list_extend_2 _ _)
    (AutoSeq1.list_extend_list_list_0 l its.toArray n b its2.toArray n2 hlong (by rw [List.size_toArray]; omega) (by omega)) ⟨e, e2, ?_⟩
  refine ⟨.non, _, I.lset (its' := its ++ its2) hH e (by simp) (r.append r2) ?_, rfl, q⟩
  rw [List.length_append]
  omega
def rClear : V → List V → Hp → VK → Prop := fun x vs H Q => ∃ l xs, x = .ref l ∧ vs = [] ∧ H l = some (.lst xs) ∧ Q .non (upd H l (.lst []))
theorem mt_clear : MtM X "list.clear" rClear := by
  intro pins s σ H x vs v us Q I rx rv h
  obtain ⟨l, xs, rfl, rfl, hH, q⟩ := h
  cases rx
  have hus := rv.zero
  subst hus
  obtain ⟨z, its, n, r, hl, e⟩ := I.lstM hH
  refine call_meets F.slot_list_clear ⟨_, e, rfl⟩ F.entry_list_clear (F.args_list_clear_1 _) (AutoSeq1.list_clear_list_0 l its.toArray n (by rw [List.size_toArray]; omega)) ⟨e, ?_⟩
  exact ⟨.non, _, I.lset (its' := []) (ys := []) hH e rfl .nil (Nat.zero_le _), rfl, q⟩
def rCat : R2 := fun x y H Q => ∃ l b xs zs, x = .ref l ∧ y = .ref b ∧ H l = some (.lst xs) ∧ H b = some (.lst zs) ∧ xs.length + zs.length ≤ sizeLine ∧ ∀ p, H p = none → Q (.ref p) (upd H p (.lst (xs ++ zs)))
theorem op_cat : OpR X (binaryOp .Add) rCat := by
  intro pins s σ H x y v u Q I rx ry h
  obtain ⟨l, b, xs, zs, rfl, rfl, hH, hB, hz, q⟩ := h
  cases rx
  cases ry
  obtain ⟨z, its, n, r, hl, e⟩ := I.lstM hH
  obtain ⟨z2, its2, n2, r2, hl2, e2⟩ := I.lstM hB
  refine PySem.P.add_list e e2 ?_ (by rw [List.size_toArray, List.size_toArray]; omega)
  have ea : its.toArray ++ its2.toArray = (its ++ its2).toArray := by simp
  rw [ea]
  exact ⟨.ref _, _, I.lnew (t' := s.toks) (r.append r2) (by rw [List.length_append]; omega), rfl, q _ I.fresh⟩
def rRep : R2 := fun x y H Q => ∃ l k xs, x = .ref l ∧ y = .int k ∧ H l = some (.lst xs) ∧ -(2 ^ 63) ≤ k ∧ k < 2 ^ 63 ∧ xs.length * k.toNat ≤ sizeLine ∧
  ∀ p, H p = none → Q (.ref p) (upd H p (.lst (List.replicate k.toNat xs).flatten))
theorem len_rep {α : Type} (xs : List α) (k : Nat) : (List.replicate k xs).flatten.length = k * xs.length := by
  induction k with
  | zero => simp
  | succ k ih => rw [List.replicate_succ, List.flatten_cons, List.length_append, ih, Nat.succ_mul, Nat.add_comm]
theorem op_rep : OpR X (binaryOp .Mult) rRep := by
  intro pins s σ H x y v u Q I rx ry h
  obtain ⟨l, k, xs, rfl, rfl, hH, h1, h2, hz, q⟩ := h
  cases rx
  obtain ⟨t, rfl⟩ := ry
  obtain ⟨z, its, n, r, hl, e⟩ := I.lstM hH
  have hlen : its.toArray.size * k.toNat ≤ sizeLine := by rw [List.size_toArray, ← hl]; exact hz
  have hcap : ¬ its.toArray.size * k.toNat > (2 ^ 63 - 1) / 8 := by
    have : (sizeLine : Nat) ≤ (2 ^ 63 - 1) / 8 := by decide
    omega
  have hfit : ¬ (!Builtin.List.listFitsIndex k) = true := by
    rw [fitsIndex_both h1 h2]
    exact Bool.false_ne_true
  have hlong : ¬ Builtin.List.listTooLong (its.toArray.size * k.toNat) = true := by
    rw [notLongL hlen]
    exact Bool.false_ne_true
  have hnew : List.foldl (fun x1 x2 => x1 ++ x2) #[] (List.replicate (if its.toArray.isEmpty = true then 0 else k.toNat) its.toArray) = (List.replicate k.toNat its).flatten.toArray := by
    have f0 : ∀ m : Nat, List.foldl (fun x1 x2 => x1 ++ x2) #[] (List.replicate m its.toArray) = (List.replicate m its).flatten.toArray := fun m => by
      have := foldl_rep its m []
      rw [List.nil_append] at this
      exact this
    rw [f0]
    cases its with
    | nil => simp
    | cons a r' => rw [if_neg (by simp)]
  refine wpAny_binaryOp_repeat_ref (T := "list") (U := "int") (by decide) ⟨_, e, rfl⟩ (fun s' => typeIs_int s' k t) noFill_list_mul F.fills_int_mul F.slot_int_rmul repeat_list F.slot_int_index.lookup
    (call_meets F.slot_int_rmul (typeIs_int s k t) F.entry_int_rmul (F.args_int_rmul_2 _ _) (int___rmul___int_list k t l its.toArray n)
      ⟨e, rfl, ⟨_, e, rfl⟩, call_meets F.slot_list_mul ⟨_, e, rfl⟩ F.entry_list_mul (F.args_list_mul_2 _ _) (AutoListH.list___mul___list_int_3 l its.toArray n k t hfit hcap hlong) ⟨e, ?_⟩⟩)
  rw [hnew]
  exact ⟨.ref _, _, I.lnew (t' := s.toks) (r.rep k.toNat) (by rw [len_rep, Nat.mul_comm]; exact hz), rfl, q _ I.fresh⟩
end
section
variable {prog : Program} {w : World} {A : Around} {E : Value → Shared → Prop} {s : Shared}
theorem splice_eq (its its2 : List Value) (a c : Nat) : its.toArray.extract 0 a ++ its2.toArray ++ its.toArray.extract c its.toArray.size = (its.take a ++ its2 ++ its.drop c).toArray := by
  apply Array.toList_inj.mp
  first
    | (simp
       exact List.take_of_length_le (by simp))
    | simp [List.take_of_length_le]
    | simp
theorem bounds_run {a c n : Nat} (hac : a ≤ c) (hc : c ≤ n) : sliceBounds (some (a : Int)) (some (c : Int)) none n = ((a : Int), (c : Int), 1) := by
  simp only [sliceBounds, Option.getD_none]
  have h1 : ¬ ((a : Int) < 0) := by omega
  have h2 : ¬ ((c : Int) < 0) := by omega
  simp only [h1, h2, if_false, show (1 : Int) > 0 by decide, if_true]
  congr 1
  · omega
  · congr 1; omega
set_option maxRecDepth 100000 in
theorem setItem_slice {l b sl : Addr} {items new : Array Value} {n n2 : Nat} {vl vu : Value} {a c : Nat} {Q : Unit → Shared → Prop}
    (e : s.heap.get? l = some { cls := .type "list", data := .seq items n }) (e2 : s.heap.get? b = some { cls := .type "list", data := .seq new n2 }) (hne : l ≠ b)
    (hs : s.heap.IsSliceOf sl vl vu .none) (pl : IsPart vl (some (a : Int))) (pu : IsPart vu (some (c : Int))) (hac : a ≤ c) (hc : c ≤ items.size)
    (hsz : items.size + new.size ≤ sizeLine) (h : Q () { s with heap := s.heap.update l (Obj.mapSeq fun xs => xs.extract 0 a ++ new ++ xs.extract c xs.size) }) :
    wpAny (model prog w) A (setItem (.ref l) (.ref sl) (.ref b)) Q E s := by
  have hl : s.heap.IsList l items := PySem.IsL.isList e
  have hb : s.heap.IsList b new := PySem.IsL.isList e2
  obtain ⟨os, hos, hcs, hds⟩ := id hs
  have hTs : s.TypeIs (.ref sl) "slice" := ⟨os, hos, hcs⟩
  have hstep : ¬ ((rawPart none == rawInt 0) = true) := Bool.false_ne_true
  have hsame : Builtin.List.listSameRef (.ref l) (.ref b) = false := by
    unfold Builtin.List.listSameRef
    exact beq_eq_false_iff_ne.mpr hne
  have hmax : (max (a : Int) (c : Int)).toNat = c := by omega
  have hz' : ((fun xs : Array Value => xs.extract 0 a ++ new ++ xs.extract c xs.size) items).size ≤ sizeLine + 1 := by
    simp only [Array.size_append, Array.size_extract]
    omega
  unfold setItem
  try with_reducible refine wpAny_holding ?_
  first | refine wpAny_bind (wpAny_pure ?_) | skip
  refine wpAny_bind (wpAny_sequenceKey hl.typeIs (by decide) ?_)
  refine wpAny_bind (wpAny_callSpecial?_slot (name := Str.ofString "__setitem__") hl.typeIs slot_list_setitem
    (wpAny_call_entry slot_list_setitem hl.typeIs entry_list_setitem ?_ (args_list_setitem _ _ _)))
  show wpAny _ _ (Builtin.List.listSubscript? (.ref sl) >>= _) _ _ s
  refine wpAny_bind ?_
  unfold Builtin.List.listSubscript?
  refine wpAny_bind (wpAny_specialOf hTs slice_no_index ?_)
  simp only [Option.isNone_none, if_true]
  refine wpAny_pure ?_
  show wpAny _ _ (typeOf (.ref sl) >>= _) _ _ s
  refine wpAny_bind (wpAny_typeOf hTs ?_)
  first
    | rw [if_neg (by decide)]
    | refine PySem.W.KFB.if_not (by decide) ?_
  rw [listSliceParts_eq]
  refine wpAny_bind (wpAny_bind (wpAny_field hos hds (x := .none) rfl (wpAny_bind (wpAny_listPart .none ?_))))
  rw [if_neg hstep]
  refine wpAny_bind (wpAny_field hos hds (x := vl) rfl (wpAny_bind (wpAny_listPart pl ?_)))
  refine wpAny_bind (wpAny_field hos hds (x := vu) rfl (wpAny_bind (wpAny_listPart pu (wpAny_pure ?_))))
  first
    | simp only [hsame, Bool.false_eq_true, if_false]
    | refine PySem.W.KFB.if_not hsame ?_
    | (dsimp only
       rw [if_neg (by rw [hsame]; exact Bool.false_ne_true)])
  refine wpAny_bind (m := Builtin.List.listAllItems (.ref b) "must assign iterable to extended slice") ?_
  unfold Builtin.List.listAllItems
  refine wpAny_bind (wpAny_typeOf hb.typeIs ?_)
  first
    | refine PySem.W.KFB.if_so (by decide) ?_
    | rw [if_pos (by decide)]
    | simp only [beq_self_eq_true, Bool.true_or, if_true]
  unfold Builtin.List.listItems
  refine wpAny_bind (wpAny_seqItems e2 rfl (wpAny_pure ?_))
  refine wpAny_bind (wpAny_bind (wpAny_seqItems e rfl (wpAny_pure ?_)))
  refine wpAny_bind (wpAny_of_eq ((sliceIndices_raw (some (a : Int)) (some (c : Int)) none items.size (by simp)).trans (congrArg (pure : Int × Int × Int → Sem (Int × Int × Int)) (bounds_run hac hc))) ?_)
  show wpAny _ _ (if ((1 : Int) == 1) = true then _ else _) _ _ s
  rw [if_pos (by decide)]
  refine wpAny_bind (wpAny_rule ?_)
  first
    | simp only [notLongL hsz, Bool.false_eq_true, if_false]
    | refine PySem.W.KFB.if_not (notLongL hsz) ?_
  first | refine wpAny_bind (wpAny_pure ?_) | skip
  show wpAny _ _ (updateSeq l (fun xs => xs.extract 0 ((a : Int)).toNat ++ new ++ xs.extract (max (a : Int) (c : Int)).toNat xs.size) >>= _) _ _ s
  rw [hmax, Int.toNat_natCast]
  refine wpAny_bind (wpAny_updateSeq (hz := Nat.le_trans (Nat.le_add_right _ _) hsz) (_hz' := hz') e rfl ?_)
  refine wpAny_bind (wpAny_letGo ?_)
  first
    | exact wpAny_bind (wpAny_pure (wpAny_pure ⟨.none, rfl, wpAny_pure h⟩))
    | exact wpAny_pure ⟨.none, rfl, wpAny_pure h⟩
end
section
variable {X : Cx}
theorem set_slice {pins : List (Addr × Obj)} {s : Shared} {σ : St} {H : Hp} {l b sl : Addr} {xs ys : List V} {a c : Int} {vl vu : Value} {Q : Unit → Shared → Prop} (I : Inv X pins σ H s)
    (hH : H l = some (.lst xs)) (hB : H b = some (.lst ys)) (hne : l ≠ b) (hs : s.heap.IsSliceOf sl vl vu .none) (ra : RelV (.int a) vl) (rc : RelV (.int c) vu) (h0 : 0 ≤ a) (hac : a ≤ c) (hc : c ≤ xs.length)
    (hz : xs.length + ys.length ≤ sizeLine) (h : ∀ s', Inv X pins σ (upd H l (.lst (xs.take a.toNat ++ ys ++ xs.drop c.toNat))) s' → Q () s') :
    wpAny (model X.prog X.w) X.A (setItem (.ref l) (.ref sl) (.ref b)) Q X.xe s := by
  obtain ⟨ta, rfl⟩ := ra
  obtain ⟨tc, rfl⟩ := rc
  obtain ⟨z, its, n, r, hl, e⟩ := I.lstM hH
  obtain ⟨z2, its2, n2, r2, hl2, e2⟩ := I.lstM hB
  obtain ⟨a', rfl⟩ := Int.eq_ofNat_of_zero_le h0
  obtain ⟨c', rfl⟩ := Int.eq_ofNat_of_zero_le (Int.le_trans h0 hac)
  simp only [Int.toNat_natCast] at h
  refine setItem_slice (a := a') (c := c') e e2 hne hs (.int _ _) (.int _ _) (by omega) (by rw [List.size_toArray]; omega) (by rw [List.size_toArray, List.size_toArray]; omega) (h _ ?_)
  refine I.lset (its' := its.take a' ++ its2 ++ its.drop c') (t' := s.toks) hH e ?_ (Vals.append (Vals.append (r.take _) r2) (r.drop _)) ?_
  · exact splice_eq its its2 a' c'
  · rw [List.length_append, List.length_append, List.length_take, List.length_drop]
    omega
end
end L2
namespace Att
open PySem PySem.W PySem.Calls PyProof.Rows
theorem ints_of_wellAll {P : Params} {h : Heap} : ∀ (ns : List Int) (vs : List Value), WellAll P h vs (ns.map WData.int) → IntsAre vs ns := by
  intro ns
  induction ns with
  | nil =>
    intro vs w
    rw [List.map_nil] at w
    cases w
    exact .nil
  | cons n ns ih =>
    intro vs w
    rw [List.map_cons] at w
    cases w with
    | cons a b =>
      cases a
      exact .cons _ _ (ih _ b)
theorem script_of {l : OpenLaw} {n : Nat} (hn : l.most = some n) {P : Params} {h : Heap} {args : List WData} {vals : List Value}
    (hpre : l.row.toRowW.claim.pre args = true) (hwl : WellAll P h vals args) :
    ∃ a vs ns, vals = [Value.ref a] ∧ args = [WData.list (ns.map WData.int)] ∧ h.get? a = some { cls := .type "list", data := .seq vs.toArray } ∧ IntsAre vs ns ∧ ns.length ≤ n := by
  have hsh : WShape.hasAll [] args [.list .int] = true := (pre_splitW hpre).1
  have hc : l.pre.holds [] { args := args } = true := (pre_splitW hpre).2
  obtain ⟨d, r, rfl, h1, h2⟩ := hasAllW_cons hsh
  obtain rfl := hasAllW_nil h2
  obtain ⟨xs, rfl, h3⟩ := hasW_list h1
  obtain ⟨ns, rfl⟩ := items_int h3
  have hlen : ns.length ≤ n := by
    unfold OpenLaw.pre at hc
    have h4 : (WTm.not (.lt (.lit (.int (n : Int))) (.len (.arg 0)))).holds [] { args := [.list (ns.map .int)] } = true := by
      have h4 := (holds_andW hc).1
      rw [hn] at h4
      exact h4
    have h5 := condW_of h4 (w_not (w_lt w_lit (w_len_list (w_arg rfl))))
    rw [List.length_map] at h5
    refine Nat.le_of_not_lt fun q => ?_
    have q' : (n : Int) < ((ns.length : Nat) : Int) := by omega
    first
      | (rw [decide_eq_true q'] at h5; exact absurd h5 (by decide))
      | (simp at h5; omega)
  cases hwl with
  | cons w1 w2 =>
    cases w2
    cases w1 with
    | list ho hall => exact ⟨_, _, ns, rfl, rfl, ho, ints_of_wellAll ns _ hall, hlen⟩
theorem post_true (l : OpenLaw) (args : List WData) : l.row.toRowW.claim.post args (.bool true) args = true :=
  postW_of (r := l.row.toRowW) (X := (true == true))
    (show WShape.has [] (.bool true) .bool = true by first | rfl | decide | simp [WShape.has, WShape.arms, WShape.armsAll])
    (show (WTm.eq .res (.lit (.bool true))).value [] { args := args, res := some (.bool true), after := args } = some (.bool (true == true)) from w_eq_bool (w_res rfl) w_lit) rfl
theorem attach_call {l : OpenLaw} {n : Nat} {q : Program} {loose : List Str} {XP : (Str → Option Value) → Heap → Prop} {YP : World → Heap → Prop} {d : DefRec}
    (hn : l.most = some n) (hdf : d.params.defaults = [])
    (call : ∀ (w : World) (s₀ s₁ : Shared) (mg mb : Str → Option Value) (fa : Addr) (o : Obj) (pm cd doc : Value) (a : Addr) (vs : List Value) (ns : List Int),
      Ground q loose [] XP w s₀ mg mb s₁.heap → YP w s₁.heap →
      s₁.heap.get? fa = some o → o.data = .func (docDef d.name d.params d.body d.scope pm cd doc) → s₁.heap.CodeRec cd d.name → mg d.name = some (.ref fa) →
      s₁.heap.get? a = some { cls := .type "list", data := .seq vs.toArray } → IntsAre vs ns → ns.length ≤ n → s₁.gens = #[] →
      codeAny (model l.prog w) callerA (.call (.ref fa) ⟨[.ref a], []⟩) (fun r s' => r = .ok (.ret (.bool true)) ∧ OldK s₁.heap s'.heap ∧ s'.os = s₁.os ∧ AllBare s'.gens) s₁) :
    WalkO q loose XP YP l.row.toRowW d [] (fun f vs => PySem.call f vs) := by
  intro w s₀ s₁ mg mb G Y fa o pm cd doc dV kV ho hd hcd hD hmg hg args vals as hpre hlay hrd hwl hlo
  obtain rfl : dV = .none := Dflts.none hD hdf
  obtain rfl : kV = .none := Dflts.noKw hD
  obtain ⟨a, vs, ns, rfl, rfl, hobj, hints, hlen⟩ := script_of hn hpre hwl
  refine enter_call (codeAny_mono (call w s₀ s₁ mg mb fa o pm cd doc a vs ns G Y ho (fd_plain hd) hcd hmg hobj hints hlen hg) fun r s' hq => ?_)
  obtain ⟨rfl, h2, h3, h4⟩ := hq
  exact ⟨.inl ⟨.bool true, .bool true, [], rfl, fun _ => rfl, .bool true, post_true l _, fun _ => ⟨List.Pairwise.nil, fun _ hm => (nomatch hm)⟩⟩, h2, h3, h4⟩
end Att
namespace L2
open PySem PySem.Spec PyProof.Rows
theorem vals_ints : ∀ {vs : List Value} {ns : List Int}, IntsAre vs ns → Vals (ns.map V.int) vs
  | _, _, .nil => .nil
  | _, _, .cons n t h => .cons ⟨t, rfl⟩ (vals_ints h)
def Only (H : Hp) : Prop := ∀ b, H b = none ∨ ∃ o xs, H b = some (.frz o (.lst xs))
theorem law_call {P : Program} {w : World} {K : PySem.W.Frag} {mg mb : Str → Option Value} {CX : CXT} {k : Nat} {fa a : Addr} {fd : FuncData} {x : Str} {sp : Sp} {s₁ : Shared} {vs : List Value} {ns : List Int}
    (KX : K.In s₁.heap) (hns : s₁.heap.Ns mainGlobals mg) (hb : s₁.heap.Ns builtinsNs mb) (hbb : ∀ x : Str, x ≠ "__name__" → mb x = bootBuiltins x) (hlim : s₁.heap.NoLimit) (hg : s₁.gens = #[])
    (ha : s₁.heap.get? a = some { cls := .type "list", data := .seq vs.toArray }) (hi : IntsAre vs ns) (hl : ns.length ≤ sizeLine) (hr : Room k callerA)
    (F : ∀ base : Heap, K.In base → base.Ns mainGlobals mg → FnOk P w K mg base CX k fa fd [x] sp) (hbind : ∀ (s : Shared) (u : Value), BindsTo s fd ⟨[u], []⟩ [(x, u)])
    (hsp : ∀ H : Hp, Only H → SqL K H a (ns.map V.int) → sp [.ref a] H (fun v _ => v = .bl true) fun _ _ _ => False)
    (hCX : ∀ H e s', CX [] H s₁ (fun _ _ _ => False) e s' → False) :
    codeAny (model P w) callerA (.call (.ref fa) ⟨[.ref a], []⟩) (fun r s' => r = .ok (.ret (.bool true)) ∧ OldK s₁.heap s'.heap ∧ s'.os = s₁.os ∧ AllBare s'.gens) s₁ := by
  have rv := vals_ints hi
  have lenV := hi.length
  -- from an abstract heap in which nothing but the script may be tracked
  have core : ∀ H : Hp, Only H → SqL K H a (ns.map V.int) → HOk P w H s₁.heap → (∀ b, H b ≠ none → b = a) → (H a ≠ none → K.lookup a = none) →
      codeAny (model P w) callerA (.call (.ref fa) ⟨[.ref a], []⟩) (fun r s' => r = .ok (.ret (.bool true)) ∧ OldK s₁.heap s'.heap ∧ s'.os = s₁.os ∧ AllBare s'.gens) s₁ := by
    intro H hO hS hok hA hK
    have base_of : ∀ {b : Addr} {o : Obj}, s₁.heap.get? b = some o → H b = none → (hidT s₁.heap H).get? b = some o := fun e n => hidT_get e n
    have noA : ∀ {b : Addr} {o : Obj} {es : Array DictEntry} {ep : Nat}, s₁.heap.get? b = some o → o.data = .dict es ep → H b = none := fun {b o es ep} e d => by
      cases q : H b with
      | none => rfl
      | some u =>
        have e' : b = a := hA b (by rw [q]; simp)
        subst e'
        rw [ha] at e; cases e
        have d' : Data.seq vs.toArray _ = Data.dict es ep := d
        cases d'
    have nsK : ∀ {b : Addr} {m : Str → Option Value}, s₁.heap.Ns b m → (hidT s₁.heap H).Ns b m := fun {b m} ⟨o, es, ep, e, d, r⟩ => ⟨o, es, ep, base_of e (noA e d), d, r⟩
    have hKb : K.In (hidT s₁.heap H) := fun b o e => base_of (KX b o e) (by
      cases q : H b with
      | none => rfl
      | some u =>
        have e' : b = a := hA b (by rw [q]; simp)
        subst e'
        rw [hK (by rw [q]; simp)] at e; cases e)
    have hM : Mod K mg (hidT s₁.heap H) := ⟨hKb, nsK hns, ⟨mb, nsK hb, hbb⟩, let ⟨mc, h1, h2⟩ := hlim; ⟨mc, nsK h1, h2⟩⟩
    have e0 : Env0 P w K mg (hidT s₁.heap H) callerA [] s₁ H := ⟨rfl, hM, fun b o e => of_hidT e, Nat.le_of_eq (hidT_size _ _), trivial, fun b hb => absurd (show b ∈ ([] : List Addr) from hb) (by simp), hok, .of_eq hg⟩
    refine codeAny_mono ((F _ hKb (nsK hns)).run callerA [] s₁ H ⟨[.ref a], []⟩ [.ref a] [.ref a] _ _ hr e0 (hbind s₁ (.ref a)) (.cons rfl .nil) (hsp H hO hS)) fun r s' h => ?_
    cases r with
    | error e => exact (hCX H e s' h).elim
    | ok fl =>
      cases fl with
      | next => exact False.elim h
      | brk => exact False.elim h
      | cont => exact False.elim h
      | ret u =>
        obtain ⟨v, H', os, bare, un, hok', r', q⟩ := h
        have q' : v = .bl true := q
        subst q'
        obtain rfl : u = Value.bool true := r'
        refine ⟨rfl, OldK.of_keep fun b o e => ?_, os, bare⟩
        cases q : H b with
        | none => exact un.keep b o e q (by intro z; exact absurd (show b ∈ ([] : List Addr) from z) (by simp)) (by simp)
        | some u =>
          rcases hO b with z | ⟨ob, xs, z⟩
          · rw [q] at z; cases z
          · have z2 := un.frzs b ob _ z
            obtain ⟨e1, _⟩ := hok b _ z
            obtain ⟨e2, _⟩ := hok' b _ z2
            rw [e] at e1; cases e1
            exact e2
  cases hk : K.lookup a with
  | some o =>
    -- the script is one of the module's own objects
    have e := KX a o hk
    rw [ha] at e
    cases e
    refine core (fun _ => none) (fun _ => .inl rfl) (.inr ⟨_, vs.toArray, _, hk, rfl, rfl, rfl, by rw [List.size_toArray, lenV]; exact hl, by simpa using rv⟩) (fun b u z => by have z' : (none : Option HO) = some u := z; cases z') (fun b z => absurd rfl z) fun z => absurd rfl z
  | none =>
    refine core (fun b => if b = a then some (.frz { cls := .type "list", data := .seq vs.toArray } (.lst (ns.map V.int))) else none) (fun b => ?_) (.inl (.inr ⟨{ cls := .type "list", data := .seq vs.toArray }, if_pos rfl⟩)) (fun b u z => ?_) (fun b z => ?_) fun _ => hk
    · by_cases hb : b = a
      · exact .inr ⟨_, _, if_pos hb⟩
      · exact .inl (if_neg hb)
    · by_cases hb : b = a
      · have z' := (if_pos hb).symm.trans z
        cases z'
        subst hb
        exact ⟨ha, by rw [List.length_map]; exact hl, vs, _, rv, ha⟩
      · have z' := (if_neg hb).symm.trans z
        cases z'
    · by_cases hb : b = a
      · exact hb
      · exact absurd (if_neg hb) z
theorem walk_of {l : PySem.W.OpenLaw} {n k : Nat} {q : Program} {loose : List Str} {XP : (Str → Option Value) → Heap → Prop} {YP : World → Heap → Prop} {d : DefRec} {K : Params → PySem.W.Frag} {CX : World → CXT} {sp : World → Sp} {x : Str}
    (hn : l.most = some n) (hn2 : n ≤ sizeLine) (hdf : d.params.defaults = []) (hr : Room k callerA)
    (hY : ∀ (w : World) (h : Heap), YP w h → (K w.params).In h)
    (F : ∀ (w : World) (mg : Str → Option Value) (fa : Addr) (h : Heap), (K w.params).In h → h.Ns mainGlobals mg → mg d.name = some (.ref fa) →
      ∃ fd : FuncData, (∀ (s : Shared) (u : Value), BindsTo s fd ⟨[u], []⟩ [(x, u)]) ∧
        ∀ base : Heap, (K w.params).In base → base.Ns mainGlobals mg → FnOk l.prog w (K w.params) mg base (CX w) k fa fd [x] (sp w))
    (hsp : ∀ (w : World) (H : Hp) (a : Addr) (ns : List Int), ns.length ≤ n → Only H → SqL (K w.params) H a (ns.map V.int) → sp w [.ref a] H (fun v _ => v = .bl true) fun _ _ _ => False)
    (hCX : ∀ (w : World) (H : Hp) (s : Shared) (e : Value) (s' : Shared), CX w [] H s (fun _ _ _ => False) e s' → False) :
    PySem.W.WalkO q loose XP YP l.row.toRowW d [] (fun f vs => PySem.call f vs) := by
  refine Att.attach_call hn hdf fun w s₀ s₁ mg mb fa o pm cd doc a vs ns G Y ho hd hcd hmg hobj hints hlen hg => ?_
  have KX := hY w _ Y
  obtain ⟨fd, hb, hF⟩ := F w mg fa _ KX G.T.g hmg
  exact law_call KX G.T.g G.T.b G.T.builtins G.T.nolimit hg hobj hints (Nat.le_trans hlen hn2) hr hF hb (fun H hO hS => hsp w H a ns hlen hO hS) fun H e s' => hCX w H s₁ e s'
def inClass (s : Stmt) (j : Nat) : Stmt := match s with
  | .ClassDef _ _ _ body _ _ _ _ _ _ _ => body.getD j (.Pass ⟨0, 0, 0, 0⟩)
  | _ => .Pass ⟨0, 0, 0, 0⟩
def defArgs (s : Stmt) : Arguments := match s with
  | .FunctionDef _ a _ _ _ _ _ _ _ _ => a
  | _ => { posonlyargs := [], args := [], vararg := none, kwonlyargs := [], kw_defaults := [], kwarg := none, defaults := [] }
def defBody (s : Stmt) : List Stmt := match s with
  | .FunctionDef _ _ b _ _ _ _ _ _ _ => b
  | _ => []
def defScope (s : Stmt) : Scope := match s with
  | .FunctionDef _ _ _ _ _ _ sc _ _ _ => sc
  | _ => { kind := .function, names := [], isGenerator := false, isCoroutine := false }
abbrev CX0 : CXT := fun _ _ _ _ _ _ => False
abbrev E0 : XK := fun _ _ _ => False
theorem pass0 {X : Cx} : Passes CX0 X E0 := fun _ _ _ _ _ _ _ h => h.elim
structure Fun (K : PySem.W.Frag) (x qual : Str) (st : Stmt) (f : Addr) (fd : FuncData) : Prop where
  ex : ∃ (oc : Value) (od : Option Addr) (kV doc pm : Value) (an : Option Addr) (cdv ct : Value) (osl : Array (Option Value)),
    fd = PySem.W.fnOf x qual (defArgs st) (defBody st) (defScope st) .none kV doc pm an cdv ct ∧ K.lookup f = some ⟨oc, od, .func fd, osl⟩ ∧ PySem.W.codeIn K cdv qual = true
  kp : PySem.W.keepIn K (.ref f) = true
section
variable {P : Program} {w : World} {K : PySem.W.Frag} {mg : Str → Option Value} {base : Heap}
theorem Fun.ok {x qual : Str} {st : Stmt} {f : Addr} {fd : FuncData} {N ps : List Str} {k : Nat} {sp : Sp} (F : Fun K x qual st f fd) (S : FnScope N ps (defScope st)) (len : ∀ vs H Q E, sp vs H Q E → vs.length = ps.length)
    (hbody : ∀ (cdv : Value) (A : Around) (outer : List Env) (s : Shared) (H : Hp) (vs : List V) (Q : VK) (E : XK), Room k (A.deeper (envOfC qual (defScope st) s.heap.objs.size f cdv)) → sp vs H Q E →
      ∃ t, PSs (cxOf CX0 P w K mg base N qual (defScope st) f cdv A outer s H E).nox (defBody st) t ∧ t { nx := fun _ H' => Q .non H', rt := Q } (start N vs) H) : FnOk P w K mg base CX0 (k + 1) f fd ps sp := by
  obtain ⟨oc, od, kV, doc, pm, an, cdv, ct, osl, rfl, lk, hcd⟩ := F.ex
  refine fn_of lk hcd S len fun A outer s H vs Q E hr hsp => ?_
  obtain ⟨t, h, q⟩ := hbody cdv A outer s H vs Q E hr hsp
  exact ⟨t, h.nox, q⟩
theorem Fun.binds {x qual : Str} {st : Stmt} {f : Addr} {fd : FuncData} {ps : List Str} (F : Fun K x qual st f fd)
    (h : ∀ (kV doc pm : Value) (an : Option Addr) (cdv ct : Value) (us : List Value), us.length = ps.length → bindArgs (PySem.W.fnOf x qual (defArgs st) (defBody st) (defScope st) .none kV doc pm an cdv ct) ⟨us, []⟩ = pure (ps.zip us)) : Binds K fd ps [] := by
  obtain ⟨oc, od, kV, doc, pm, an, cdv, ct, osl, rfl, lk, hcd⟩ := F.ex
  exact .all (h kV doc pm an cdv ct)
theorem fun_mk {x qual : Str} {st : Stmt} {f : Addr} {oc : Value} {od an : Option Addr} {osl : Array (Option Value)} {kV doc pm cdv ct : Value} (l : K.lookup f = some ⟨oc, od, .func (PySem.W.fnOf x qual (defArgs st) (defBody st) (defScope st) .none kV doc pm an cdv ct), osl⟩)
    (c : PySem.W.codeIn K cdv qual = true) (k : PySem.W.keepIn K (.ref f) = true) : Fun K x qual st f (PySem.W.fnOf x qual (defArgs st) (defBody st) (defScope st) .none kV doc pm an cdv ct) := ⟨⟨oc, od, kV, doc, pm, an, cdv, ct, osl, rfl, l, c⟩, k⟩
end
section
variable {X : Cx}
theorem pv (i : Nat) {x : Str} {pos : Pos} (hN : X.N[i]? = some x := by rfl) (hv : Vis X.env.scope x := by first | exact Or.inl rfl | exact Or.inr (Or.inl rfl) | exact Or.inr (Or.inr rfl)) (hd : (x == ("__debug__" : Str)) = false := by decide)
    (hcd : (x == ("__classdict__" : Str)) = false := by decide) : PE X (.Name x pos) (tVar i) := pe_var hN hv hd hcd
end
theorem iteF {A B : Prop} (h : B) : if false = true then A else B := by
  rw [if_neg Bool.false_ne_true]
  exact h
theorem iteT {A B : Prop} (h : A) : if true = true then A else B := by
  rw [if_pos rfl]
  exact h
def Same (H H' : Hp) : Prop := ∀ b o, H b = some o → H' b = some o
theorem Same.trans {H H1 H2 : Hp} (a : Same H H1) (b : Same H1 H2) : Same H H2 := fun c o h => b c o (a c o h)
theorem Same.free {H H' : Hp} (e : Same H H') {l : Addr} (h : H' l = Option.none) : H l = Option.none := by
  cases q : H l with
  | none => rfl
  | some o =>
    rw [e l o q] at h
    cases h
theorem Same.seq {K : PySem.W.Frag} {H H' : Hp} {a : Addr} {xs : List V} (e : Same H H') (h : SqL K H a xs) : SqL K H' a xs := by
  rcases h with (h | ⟨o, h⟩) | h
  · exact .inl (.inl (e _ _ h))
  · exact .inl (.inr ⟨o, e _ _ h⟩)
  · exact .inr h
section
variable {κ : Type} [DecidableEq κ]
def valV (kvs : List (κ × V)) (k : κ) : Option V := (kvs.find? fun kv => decide (kv.1 = k)).map (·.2)
def putK (kvs : List (κ × V)) (k : κ) (v : V) : List (κ × V) :=
  if (kvs.any fun kv => decide (kv.1 = k)) = true then kvs.map (fun kv => if kv.1 = k then (kv.1, v) else kv) else kvs ++ [(k, v)]
def dropK (kvs : List (κ × V)) (k : κ) : List (κ × V) := kvs.filter fun kv => decide (kv.1 ≠ k)
theorem valV_pos {p : κ × V} {r : List (κ × V)} {k : κ} (e : p.1 = k) : valV (p :: r) k = some p.2 := by simp [valV, List.find?_cons, e]
theorem valV_neg {p : κ × V} {r : List (κ × V)} {k : κ} (e : ¬ p.1 = k) : valV (p :: r) k = valV r k := by simp [valV, List.find?_cons, e]
theorem RelO.getD {o : Option V} {u : Option Value} {d : V} {d' : Value} (r : RelO o u) (rd : RelV d d') : RelV (o.getD d) (u.getD d') := by
  cases o with
  | none => cases u with
    | none => exact rd
    | some _ => exact (show False from r).elim
  | some _ => cases u with
    | none => exact (show False from r).elim
    | some _ => exact r
theorem KV.val {kvs : List (κ × V)} {vs : List (κ × Value)} (r : KV kvs vs) (k : κ) : RelO (valV kvs k) (valueAt vs k) := by
  unfold KV at r
  induction r with
  | nil => exact True.intro
  | @cons p q ps qs h t ih =>
    obtain ⟨h1, h2⟩ := h
    by_cases e : p.1 = k
    · have e' : q.1 = k := h1.symm.trans e
      have b : valueAt (q :: qs) k = some q.2 := by simp [valueAt, List.find?_cons, e']
      rw [valV_pos e, b]; exact h2
    · have e' : ¬ q.1 = k := fun z => e (h1.trans z)
      have b : valueAt (q :: qs) k = valueAt qs k := by simp [valueAt, List.find?_cons, e']
      rw [valV_neg e, b]; exact ih
theorem KV.any {kvs : List (κ × V)} {vs : List (κ × Value)} (r : KV kvs vs) (k : κ) : (kvs.any fun kv => decide (kv.1 = k)) = vs.any fun kv => decide (kv.1 = k) := by
  unfold KV at r
  induction r with
  | nil => rfl
  | cons h t ih => rw [List.any_cons, List.any_cons, ih, h.1]
theorem KV.drop {kvs : List (κ × V)} {vs : List (κ × Value)} (r : KV kvs vs) (k : κ) : KV (dropK kvs k) (without vs k) := by
  unfold KV at r ⊢
  unfold dropK without
  induction r with
  | nil => exact .nil
  | @cons p q ps qs h t ih =>
    obtain ⟨h1, h2⟩ := h
    rw [List.filter_cons, List.filter_cons]
    by_cases e : p.1 = k
    · have a : ¬ decide (p.1 ≠ k) = true := by simp [e]
      have b : ¬ decide (q.1 ≠ k) = true := by simp [h1.symm.trans e]
      rw [if_neg a, if_neg b]; exact ih
    · have e' : ¬ q.1 = k := fun z => e (h1.trans z)
      have a : decide (p.1 ≠ k) = true := by simp [e]
      have b : decide (q.1 ≠ k) = true := by simp [e']
      rw [if_pos a, if_pos b]; exact .cons ⟨h1, h2⟩ ih
theorem KV.keys {kvs : List (κ × V)} {vs : List (κ × Value)} (r : KV kvs vs) : kvs.map (·.1) = vs.map (·.1) := by
  unfold KV at r
  induction r with
  | nil => rfl
  | cons h t ih => rw [List.map_cons, List.map_cons, ih, h.1]
theorem KV.length {kvs : List (κ × V)} {vs : List (κ × Value)} (r : KV kvs vs) : kvs.length = vs.length := Paired.length r
end
abbrev KT (H : Hp) : List (List Key × V) → List (List Key × Addr × Value) → Prop := Paired fun p q => p.1 = q.1 ∧ H q.2.1 = some (.tup (p.1.map kV)) ∧ RelV p.2 q.2.2
theorem KT.val {H : Hp} {kvs : List (List Key × V)} {xs : List (List Key × Addr × Value)} (r : KT H kvs xs) (k : List Key) : RelO (valV kvs k) ((atKey xs k).map (·.2)) := by
  induction r with
  | nil => exact True.intro
  | @cons p q ps qs h t ih =>
    obtain ⟨h1, _, h2⟩ := h
    by_cases e : p.1 = k
    · have e' : q.1 = k := h1.symm.trans e
      have b : atKey (q :: qs) k = some q.2 := by simp [atKey, List.find?_cons, e']
      rw [valV_pos e, b]; exact h2
    · have e' : ¬ q.1 = k := fun z => e (h1.trans z)
      have b : atKey (q :: qs) k = atKey qs k := by simp [atKey, List.find?_cons, e']
      rw [valV_neg e, b]; exact ih
section
variable {P : Program} {w : World} {H : Hp} {h : Heap} {a : Addr}
theorem rd_of {u : HO} (ok : HOk P w H h) (e : Rd H a u) : ObjOk P w H h a u := e.ok ok
theorem dk_rd {kvs : List (Key × V)} (ok : HOk P w H h) (e : Rd H a (.dK kvs)) : kvs.length ≤ sizeLine ∧ (a == sysModules) = false ∧ ∃ vs, KV kvs vs ∧ h.DictOf (mixKind P w) a vs :=
  show ObjOk P w H h a (.dK kvs) from rd_of ok e
theorem dk_of {kvs : List (Key × V)} (ok : HOk P w H h) (e : H a = some (.dK kvs)) : kvs.length ≤ sizeLine ∧ (a == sysModules) = false ∧ ∃ vs, KV kvs vs ∧ h.DictOf (mixKind P w) a vs := dk_rd ok (.inl e)
end
def DGet (H : Hp) (a : Addr) (y : V) (r : Option V) : Prop :=
  (∃ kvs k, Rd H a (.dK kvs) ∧ y = kV k ∧ r = valV kvs k) ∨ ∃ kvs k b, Rd H a (.dT kvs) ∧ y = .ref b ∧ H b = some (.tup (k.map kV)) ∧ r = valV kvs k
def DPut (H : Hp) (a : Addr) (y v : V) (H' : Hp) : Prop :=
  (∃ kvs k, H a = some (.dK kvs) ∧ y = kV k ∧ kvs.length < sizeLine ∧ H' = upd H a (.dK (putK kvs k v))) ∨
  ∃ kvs k b, H a = some (.dT kvs) ∧ y = .ref b ∧ H b = some (.tup (k.map kV)) ∧ kvs.length < sizeLine ∧ H' = upd H a (.dT (putK kvs k v))
theorem DGet.k {H : Hp} {a : Addr} {kvs : List (Key × V)} {k : Key} (e : H a = some (.dK kvs)) : DGet H a (kV k) (valV kvs k) := .inl ⟨kvs, k, .inl e, rfl, rfl⟩
theorem DGet.t {H : Hp} {a b : Addr} {kvs : List (List Key × V)} {k : List Key} (e : H a = some (.dT kvs)) (eb : H b = some (.tup (k.map kV))) : DGet H a (.ref b) (valV kvs k) := .inr ⟨kvs, k, b, .inl e, rfl, eb, rfl⟩
theorem DPut.k {H : Hp} {a : Addr} {kvs : List (Key × V)} {k : Key} {v : V} (e : H a = some (.dK kvs)) (hl : kvs.length < sizeLine) : DPut H a (kV k) v (upd H a (.dK (putK kvs k v))) := .inl ⟨kvs, k, e, rfl, hl, rfl⟩
theorem DPut.t {H : Hp} {a b : Addr} {kvs : List (List Key × V)} {k : List Key} {v : V} (e : H a = some (.dT kvs)) (eb : H b = some (.tup (k.map kV))) (hl : kvs.length < sizeLine) :
    DPut H a (.ref b) v (upd H a (.dT (putK kvs k v))) := .inr ⟨kvs, k, b, e, rfl, eb, hl, rfl⟩
end L2
set_option maxHeartbeats 4000000
namespace L2
open PySem PySem.Spec PyProof.Rows
section
variable {P : Program} {w : World} {K : PySem.W.Frag} {mg : Str → Option Value} {base : Heap} {CX : CXT} {x : Str} {ps : List Str} {sp : Sp} {j k : Nat}
structure Def (P : Program) (w : World) (K : PySem.W.Frag) (mg : Str → Option Value) (base : Heap) (CX : CXT) (k : Nat) (x : Str) (ps : List Str) (sp : Sp) : Prop where
  ex : ∃ (f : Addr) (fd : FuncData), FnOk P w K mg base CX k f fd ps sp ∧ mg x = some (.ref f) ∧ PySem.W.keepIn K (.ref f) = true ∧ Binds K fd ps []
def HasDef (K : PySem.W.Frag) (mg : Str → Option Value) (x : Str) (st : Stmt) : Prop := ∃ (f : Addr) (fd : FuncData), Fun K x x st f fd ∧ mg x = some (.ref f)
theorem HasDef.mk {st : Stmt} {f : Addr} {oc : Value} {od an : Option Addr} {osl : Array (Option Value)} {kV doc pm cdv ct : Value} (m : mg x = some (.ref f))
    (l : K.lookup f = some ⟨oc, od, .func (PySem.W.fnOf x x (defArgs st) (defBody st) (defScope st) .none kV doc pm an cdv ct), osl⟩)
    (c : PySem.W.codeIn K cdv x = true) (k : PySem.W.keepIn K (.ref f) = true) : HasDef K mg x st := ⟨f, _, fun_mk l c k, m⟩
theorem def_of {st : Stmt} {N : List Str} (h : HasDef K mg x st) (S : FnScope N ps (defScope st)) (len : ∀ vs H Q E, sp vs H Q E → vs.length = ps.length)
    (hb : ∀ (kV doc pm : Value) (an : Option Addr) (cdv ct : Value) (us : List Value), us.length = ps.length → bindArgs (PySem.W.fnOf x x (defArgs st) (defBody st) (defScope st) .none kV doc pm an cdv ct) ⟨us, []⟩ = pure (ps.zip us))
    (hbody : ∀ (f : Addr) (cdv : Value) (A : Around) (outer : List Env) (s : Shared) (H : Hp) (vs : List V) (Q : VK) (E : XK), Room k (A.deeper (envOfC x (defScope st) s.heap.objs.size f cdv)) → sp vs H Q E →
      ∃ t, PSs (cxOf CX P w K mg base N x (defScope st) f cdv A outer s H E).nox (defBody st) t ∧ t { nx := fun _ H' => Q .non H', rt := Q } (start N vs) H) : Def P w K mg base CX (k + 1) x ps sp := by
  obtain ⟨f, fd, F, m⟩ := h
  refine ⟨f, fd, ?_, m, F.kp, F.binds hb⟩
  obtain ⟨oc, od, kV, doc, pm, an, cdv, ct, osl, rfl, lk, hcd⟩ := F.ex
  refine fn_of lk hcd S len fun A outer s H vs Q E hr hsp => ?_
  obtain ⟨t, h, q⟩ := hbody f cdv A outer s H vs Q E hr hsp
  exact ⟨t, h.nox, q⟩
end
section
variable {X : Cx} {CX : CXT} {k m : Nat} {x : Str} {ps : List Str} {sp : Sp} {E : XK} {p pos : Pos} {e : Expr} {es : List Expr} {t : TA}
theorem pe_def (D : Def X.prog X.w X.K X.mg X.base CX k x ps sp) (hr : Room m X.A) (ha : PA X (e :: es) t) (hk : k ≤ m := by decide) (hx : Passes CX X E := by exact pass0) (hg : Gl X x := by rfl)
    (hdb : (x == ("__debug__" : Str)) = false := by decide) (he : starEach (e :: es) X.env = (false, eval e X.env) :: starEach es X.env := by rfl) (hpl : (backTo pos (starEach es X.env)).any (·.1) = false := by rfl) :
    PE X (.Call (.Name x p) (e :: es) [] pos) (tCall sp [] E t) := by
  obtain ⟨f, fd, F, hm, kp, b⟩ := D.ex
  exact pe_call F (hr.mono hk) hg hm kp b .nil hx ha hdb he hpl
end
def GlobIs (mg : Str → Option Value) (x : Str) (v : V) : Prop := ∃ u, mg x = some u ∧ RelV v u
theorem pe_gl {X : Cx} {x : Str} {v : V} {pos : Pos} (h : GlobIs X.mg x v) (hg : Gl X x := by rfl) (hd : (x == ("__debug__" : Str)) = false := by decide) : PE X (.Name x pos) (tC v) :=
  let ⟨_, e, r⟩ := h
  pe_glob hg e r hd
section
variable {X : Cx} {T : String} {pos : Pos}
theorem pe_ty {x : Str} (hg : Gl X x) (hm : X.mg x = none) (hv : bootBuiltins x = some (.type T)) (hn : x ≠ "__name__" := by decide) (hd : (x == ("__debug__" : Str)) = false := by decide) : PE X (.Name x pos) (tC (.ty T)) :=
  pe_bltn hg hm hv rfl hn hd
def clsIs (K : PySem.W.Frag) (t : Value) : V → Option Bool
  | .ty T => PySem.W.kitOne K t (.type T)
  | .ref C => PySem.W.kitOne K t (.ref C)
  | _ => none
theorem call_isinstance : CallR X (.builtin "isinstance") (fun xs H Q => ∃ x c t b, xs = [x, c] ∧ TyOf X.K H x t ∧ clsIs X.K t c = some b ∧ Q (.bl b) H) := by
  intro pins s σ H xs us Q I r h
  obtain ⟨x, c, t, b, rfl, ty, e, q⟩ := h
  obtain ⟨u, v, rfl, ru, rv⟩ := vals2 r
  cases c with
  | ty T =>
    obtain rfl : v = Value.type T := rv
    exact isinst_ok I ru ty e fun tk => ⟨.bl b, H, I.tok _, rfl, q⟩
  | ref C =>
    obtain rfl : v = Value.ref C := rv
    exact isinst_ok I ru ty e fun tk => ⟨.bl b, H, I.tok _, rfl, q⟩
  | _ => cases e
end
section
variable {X : Cx}
theorem vals_bools : ∀ {bs : List Bool} {us : List Value}, Vals (bs.map V.bl) us → LSm.BoolsAre us bs
  | [], _, .nil => .nil
  | b :: bs, _, .cons r t => by
    cases (show _ = Value.bool b from r)
    exact .cons b (vals_bools t)
theorem call_any (hc : X.calm = true) : CallR X (.builtin "any") (fun xs H Q => ∃ (p : Addr) (bs : List Bool), xs = [.ref p] ∧ SqL X.K H p (bs.map V.bl) ∧ Q (.bl (bs.any id)) H) := by
  intro pins s σ H xs us Q I r h
  obtain ⟨p, bs, rfl, hq, q⟩ := h
  obtain ⟨u, rfl, rx⟩ := vals1 r
  cases rx
  obtain ⟨its, rv, pl, hz⟩ := I.list hq
  have hb := vals_bools rv
  have hl := pl.isList
  have hlt : p < s.heap.objs.size := by obtain ⟨_, e, _⟩ := hl; exact Heap.lt_size e
  refine call_any_walk (wpAny_pyIter_list hl ?_)
  refine ⟨s.heap.objs.size, [s.heap.objs.size, p], [s.heap.objs.size], its.toArray.size, _, _, fun i => (bs[i]?).getD false, rfl, Walks.list (A := X.A.in1) (I.ok.hd hc) _ p (Nat.ne_of_lt hlt) its.toArray,
    ⟨⟨_, Heap.get?_push_size _ rfl, rfl, rfl⟩, hl.push _⟩, fun i v s' Q' E' hP hQ => ?_, fun h' tk hk => ?_⟩
  · obtain ⟨b, e, rfl⟩ := hb.get i v (by simpa using hP)
    simp only [e, Option.getD_some] at hQ
    exact wpAny_truthy_bool hQ
  · have e : ((List.range its.toArray.size).any fun i => (bs[i]?).getD false) = bs.any id := by
      rw [List.size_toArray, hb.length]; exact LSm.range_any bs
    rw [e]
    exact ⟨.bl _, H, I.kept (LSm.kept_iter hk), rfl, q⟩
end
def closOf (env : Env) : List (Str × NameKind) → Option (List (Str × Addr))
  | [] => some []
  | (n, k) :: r => if k = .free then (env.cells.lookup n).bind fun c => (closOf env r).map fun cl => cl ++ [(n, c)] else closOf env r
theorem closOf_lookup {env : Env} : ∀ {names : List (Str × NameKind)} {cl : List (Str × Addr)}, closOf env names = some cl → ∀ x c, cl.lookup x = some c → env.cells.lookup x = some c
  | [], cl, h, x, c, e => by
    cases (Option.some.inj h)
    cases e
  | (n, k) :: r, cl, h, x, c, e => by
    unfold closOf at h
    by_cases hk : k = .free
    · rw [if_pos hk] at h
      cases hc : env.cells.lookup n with
      | none => rw [hc] at h; cases h
      | some c' =>
        rw [hc] at h
        have h : (closOf env r).map (fun cl => cl ++ [(n, c')]) = some cl := h
        cases hr : closOf env r with
        | none => rw [hr] at h; cases h
        | some cl' =>
          rw [hr] at h
          have h : cl' ++ [(n, c')] = cl := Option.some.inj h
          subst h
          rw [List.lookup_append] at e
          cases h2 : cl'.lookup x with
          | some c2 =>
            rw [h2] at e
            have e : c2 = c := by simpa using e
            subst e
            exact closOf_lookup hr x c2 h2
          | none =>
            rw [h2] at e
            have e : List.lookup x [(n, c')] = some c := by simpa using e
            by_cases hx : x = n
            · subst hx
              have : c' = c := by simpa using e
              subst this
              exact hc
            · have hb : (x == n) = false := by simpa using hx
              simp [List.lookup_cons, hb] at e
    · rw [if_neg hk] at h
      exact closOf_lookup h x c e
theorem closureFor_go {env : Env} : ∀ (names : List (Str × NameKind)) (acc cl : List (Str × Addr)), closOf env names = some cl →
    (forIn (m := Sem) names acc fun x c => if x.2 == NameKind.free then (do let a ← cellOf env x.1; pure (ForInStep.yield ((x.1, a) :: c))) else pure (ForInStep.yield c)) = pure (cl ++ acc)
  | [], acc, cl, h => by
    cases (Option.some.inj h)
    rfl
  | (n, k) :: r, acc, cl, h => by
    unfold closOf at h
    rw [List.forIn_cons]
    by_cases hk : k = .free
    · rw [if_pos hk] at h
      cases hc : env.cells.lookup n with
      | none => rw [hc] at h; cases h
      | some c' =>
        rw [hc] at h
        have h : (closOf env r).map (fun cl => cl ++ [(n, c')]) = some cl := h
        cases hr : closOf env r with
        | none => rw [hr] at h; cases h
        | some cl' =>
          rw [hr] at h
          have h : cl' ++ [(n, c')] = cl := Option.some.inj h
          subst h
          have hb : (k == NameKind.free) = true := by simpa using hk
          have := closureFor_go r ((n, c') :: acc) cl' hr
          have ec : cellOf env n = pure c' := by unfold cellOf; rw [hc]
          simp only [hb, if_true, ec, pure_bind, bind_assoc]
          rw [this]
          simp
    · rw [if_neg hk] at h
      have hb : (k == NameKind.free) = false := by simpa using hk
      have := closureFor_go r acc cl h
      simp only [hb, Bool.false_eq_true, if_false, pure_bind]
      exact this
theorem closureFor_of {env : Env} {scope : Scope} {cl : List (Str × Addr)} (h : closOf env scope.names = some cl) : closureFor scope env = pure cl := by
  have := closureFor_go scope.names [] cl h
  rw [List.append_nil] at this
  have key : closureFor scope env = (forIn (m := Sem) scope.names ([] : List (Str × Addr)) fun x c => if x.2 == NameKind.free then (do let a ← cellOf env x.1; pure (ForInStep.yield ((x.1, a) :: c))) else pure (ForInStep.yield c)) >>= fun cs => pure cs := by
    unfold closureFor
    rfl
  rw [key, this]
  rfl
theorem comp_loop {prog : Program} {w : World} {A : Around} {R : Result → Shared → Prop} {s : Shared} {elt target iter : Expr} {ifs : List Expr} {scope : Scope} {pos : Pos} {it acc : Value} {env : Env} (I : Nat → Shared → Prop)
    (turn : ∀ n s, I n s → wpAny (model prog w) A (pyNext it) (fun r s₁ => match r with
      | none => R (.ok .next) s₁
      | some v => wpAny (model prog w) A (letOwnedTupleGo target it v) (fun _ s₀ => wpAny (model prog w) A (assign target env v) (fun _ s₂ =>
          wpAny (model prog w) A (forIn ifs true fun c r => if r = true then do let ok ← isTrue c env (eval c env); pure (ForInStep.yield ok) else pure (ForInStep.yield r)) (fun ok s₃ =>
            if ok = true then wpAny (model prog w) A (eval elt env) (fun x s₄ =>
              wpAny (model prog w) A (call (.builtin "list.append") [acc, x]) (fun _ s₅ => ∃ m, m < n ∧ I m s₅) (fun _ _ => False) s₄) (fun _ _ => False) s₃
            else ∃ m, m < n ∧ I m s₃) (fun _ _ => False) s₂) (fun _ _ => False) s₀) (fun _ _ => False) s₁) (fun _ _ => False) s)
    (n : Nat) (h : I n s) :
    codeAny (model prog w) A (.compLoop (.ListComp elt [⟨target, iter, ifs, 0⟩] scope pos) 0 it acc env) R s := by
  refine codeAny_loop rfl I (fun n s hI => ?_) n h
  show wpAny _ A ((compTurn (.ListComp elt [⟨target, iter, ifs, 0⟩] scope pos) 0 it acc env).onRaise (fun x => do noteFrame x env; theTreesLotGoes x)) _ _ s
  refine wpAny_noted ?_
  rw [compTurn_list]
  refine wpAny_bind (wpAny_standAt (wpAny_bind (wpAny_mono (turn n s hI) (fun r s₁ h₁ => ?_) fun _ _ h' => h'.elim)))
  cases r with
  | none => exact wpAny_pure h₁
  | some v =>
    refine wpAny_bind (wpAny_mono h₁ (fun _ s₀ h₀ => ?_) fun _ _ h' => h'.elim)
    refine wpAny_bind (wpAny_mono h₀ (fun _ s₂ h₂ => wpAny_bind (wpAny_mono h₂ (fun ok s₃ h₃ => ?_) fun _ _ h' => h'.elim)) fun _ _ h' => h'.elim)
    cases ok with
    | false => exact wpAny_pure ⟨rfl, h₃⟩
    | true =>
      exact wpAny_bind (wpAny_bind (wpAny_mono h₃ (fun x s₄ h₄ => wpAny_bind (wpAny_mono h₄ (fun _ s₅ h₅ => wpAny_pure (wpAny_pure ⟨rfl, h₅⟩)) fun _ _ h' => h'.elim)) fun _ _ h' => h'.elim))
def cxComp (X : Cx) (N : List Str) (scope : Scope) (cl : List (Str × Addr)) (pins : List (Addr × Obj)) (s : Shared) (H : Hp) (fp : List Addr) : Cx where
  prog := X.prog
  w := X.w
  K := X.K
  mg := X.mg
  base := X.base
  A := X.A
  N := N
  s₀ := s
  H₀ := H
  env := compEnvC scope cl s.heap.objs.size X.env
  outer := X.stack
  stack := X.stack
  ex := fp
  fn := fun _ => false
  calm := X.calm
  pn := X.pn ++ pins
  xe := fun _ _ => False
def compStart0 (nt : Nat) (fr : List Nat) (σ : St) : St := List.replicate nt none ++ fr.map fun i => (σ[i]?).getD none
structure CompNames (X : Cx) (N : List Str) (nt : Nat) (fr : List Nat) (scope : Scope) (cl : List (Str × Addr)) : Prop where
  len : N.length = nt + fr.length
  free : ∀ (j : Nat) (i : Nat) (x : Str), fr[j]? = some i → N[nt + j]? = some x → X.N[i]? = some x ∧ (∃ c, cl.lookup x = some c) ∧ (X.env.kindOf x = some .cell ∨ X.env.kindOf x = some .free) ∧
    ((relabel scope X.env).names.lookup x = some .cell ∨ (relabel scope X.env).names.lookup x = some .free)
  cells : ∀ x c, cl.lookup x = some c → X.env.cells.lookup x = some c
  has : ∀ x, ((relabel scope X.env).names.lookup x = some .cell ∨ (relabel scope X.env).names.lookup x = some .free) → ∃ c, cl.lookup x = some c
  kind : scope.kind = .function
theorem Vis_of_cell {X : Cx} {x : Str} (h : X.env.kindOf x = some .cell ∨ X.env.kindOf x = some .free) : Vis X.env.scope x := by
  rcases h with h | h
  · exact .inr (.inl h)
  · exact .inr (.inr h)
section
variable {X : Cx} {N : List Str} {nt : Nat} {fr : List Nat} {scope : Scope} {cl : List (Str × Addr)} {pins : List (Addr × Obj)} {σ : St} {H : Hp} {s : Shared} {fp : List Addr}
theorem comp_ok (I : Inv X pins σ H s) (cn : CompNames X N nt fr scope cl) (hf : ∀ b ∈ fp, FpOk X pins H b) (ho : ∀ b ∈ fp, b < s.heap.objs.size) : (cxComp X N scope cl pins s H fp).Ok where
  mod := I.mod
  kind := cn.kind
  glob := I.ok.glob
  blt := I.ok.blt
  above := Nat.le_refl _
  inj := fun x y c h1 h2 => I.ok.inj x y c (cn.cells x c h1) (cn.cells y c h2)
  has := fun x hx => cn.has x hx
  cab := fun x c h _ => by cases (show false = true from h)
  hd := I.ok.hd
  frames := I.ok.frames
  stk := .inl rfl
  exf := fun b hb => ⟨Nat.ne_of_lt (ho b hb), fun x c e => (hf b hb).2.2.2.2.1 x c (cn.cells x c e)⟩
  bs := I.bs
  bsz := Nat.le_trans I.ok.bsz I.sz
  noex := fun b o e hb => by
    rcases (hf b hb).2.2.2.1 with z | z
    · exact I.ok.noex b o e z
    · exact absurd (Nat.lt_of_lt_of_le (Heap.lt_size e) (Nat.le_trans I.ok.bsz z)) (Nat.lt_irrefl _)
  exfs := fun b hb z => (List.mem_cons.mp (I.stkSub b z)).elim (fun e => (hf b hb).2.1 e) fun e => (hf b hb).2.2.1 e
  funs := I.stack
  frf := I.stkFree
theorem comp_inv {h4 : Heap} {t' : Nat} (I : Inv X pins σ H s) (cn : CompNames X N nt fr scope cl) (hf : ∀ b ∈ fp, FpOk X pins H b) (ho : ∀ b ∈ fp, b < s.heap.objs.size)
    (k : ∀ b o, s.heap.get? b = some o → h4.get? b = some o) (hns : ∃ m, h4.Ns s.heap.objs.size m) : Inv (cxComp X N scope cl pins s H fp) [] (compStart0 nt fr σ) H { s with heap := h4, toks := t' } := by
  have ck : ∀ {c : Addr} {v : Option Value}, s.heap.IsCell c v → h4.IsCell c v := fun ⟨o, e, d⟩ => ⟨o, k _ o e, d⟩
  refine ⟨comp_ok I cn hf ho, rfl, I.bare, Un.kept k, ?_, fun x c e => ?_, ?_, fun x c e => ?_, fun p hp => ?_, I.hok.kept k, ?_⟩
  · obtain ⟨m, hm⟩ := hns
    refine ⟨m, hm, fun i x v e1 e2 _ => ?_⟩
    have e2 : (compStart0 nt fr σ)[i]? = some (some v) := e2
    have e1 : N[i]? = some x := e1
    unfold compStart0 at e2
    by_cases hi : i < nt
    · rw [List.getElem?_append_left (by simpa using hi), List.getElem?_replicate, if_pos hi] at e2
      cases e2
    · obtain ⟨j, rfl⟩ : ∃ j, i = nt + j := ⟨i - nt, by omega⟩
      rw [List.getElem?_append_right (by simp), List.length_replicate, Nat.add_sub_cancel_left, List.getElem?_map] at e2
      cases hj : fr[j]? with
      | none => rw [hj] at e2; cases e2
      | some i' =>
        rw [hj] at e2
        have e2 : (σ[i']?).getD none = some v := Option.some.inj e2
        have e3 : σ[i']? = some (some v) := by
          cases q : σ[i']? with
          | none => rw [q] at e2; cases e2
          | some o => rw [q] at e2; rw [show o = some v from e2]
        obtain ⟨hN, ⟨c, hc⟩, hk, hk'⟩ := cn.free j i' x hj e1
        obtain ⟨m0, _, hl⟩ := I.loc
        obtain ⟨u, r, l⟩ := hl i' x v hN e3 (Vis_of_cell hk)
        refine ⟨u, r, .inr ⟨hk', c, hc, ?_⟩⟩
        rcases l with ⟨hl', _⟩ | ⟨_, c', hc', hcell⟩
        · rcases hk with z | z <;> (rw [hl'] at z; cases z)
        · have hcc := cn.cells x c hc
          rw [hc'] at hcc; cases hcc
          exact ck hcell
  · obtain ⟨v, hv⟩ := I.cell x c (cn.cells x c e)
    exact ⟨v, ck hv⟩
  · exact I.hok.fresh (Nat.le_refl _)
  · exact I.freeC x c (cn.cells x c e)
  · have hp : p ∈ (X.pn ++ pins) ++ [] := hp
    rw [List.append_nil] at hp
    obtain ⟨e, n, ne, nf, d⟩ := I.pin p hp
    exact ⟨k p.1 p.2 e, n, Nat.ne_of_lt (Heap.lt_size e), fun z => (List.mem_cons.mp (I.stkSub p.1 z)).elim ne nf, d⟩
  · show (compStart0 nt fr σ).length = N.length
    unfold compStart0
    rw [cn.len, List.length_append, List.length_replicate, List.length_map]
theorem comp_back {H' : Hp} {s1 s' : Shared} {h' : Heap} {σ' : St} (I : Inv X pins σ H s) (hsz : s.heap.objs.size ≤ s1.heap.objs.size) (hos : s1.os = s.os) {H1 : Hp} (hH : Un (frs X.stack) fp H H1 s.heap s1.heap)
    (hf : ∀ b ∈ fp, FpOk X pins H b)
    (J : Inv (cxComp X N scope cl pins s1 H1 fp) [] σ' H' s') (sb : Heap.SameBut s1.heap.objs.size s'.heap h') : Inv X pins σ H' { s' with heap := h' } := by
  have u : Un (frs X.stack) fp H H' s.heap s'.heap := hH.trans J.base
  have lt : ∀ b o, s.heap.get? b = some o → b ≠ s1.heap.objs.size := fun b o e => Nat.ne_of_lt (Nat.lt_of_lt_of_le (Heap.lt_size e) hsz)
  have kk : ∀ b o, b ≠ s1.heap.objs.size → s'.heap.get? b = some o → h'.get? b = some o := fun b o hb e => sb.extBut b o hb e
  have u' : Un (frs X.stack) fp H H' s.heap h' := ⟨fun b o e n hb hx => kk b o (lt b o e) (u.keep b o e n hb hx), fun b o e n hb hx => let ⟨sl, z⟩ := u.slot b o e n hb hx; ⟨sl, kk b _ (lt b o e) z⟩, u.free,
    fun b o e hx => let ⟨o', z⟩ := u.there b o e hx; ⟨o', kk b o' (lt b o e) z⟩, u.tups, u.frzs, u.tbls⟩
  have nC : H' s1.heap.objs.size = none := J.free
  refine I.call' (s' := { s' with heap := h' }) (ch := fp) (J.os.trans hos) u' (fun a o e => ?_) J.bare fun b hb => ⟨(hf b hb).2.2.2.1, (hf b hb).2.1, (hf b hb).2.2.2.2.1, (hf b hb).2.2.2.2.2⟩
  refine (J.hok a o e).stay (fun b v hb q => kk b v ?_ q) (fun _ q => q) fun _ _ q => q
  rcases hb with z | z
  · rintro rfl
    rw [← z, nC] at e; cases e
  · rintro rfl
    rw [nC] at z; cases z
end
def freeB (X : Cx) (N : List Str) (nt : Nat) (scope : Scope) : List Nat → Nat → Bool
  | [], _ => true
  | i :: r, j => (match N[nt + j]? with
    | some x => decide (X.N[i]? = some x) && decide (scope.names.lookup x = some .free) && (decide (X.env.kindOf x = some .cell) || decide (X.env.kindOf x = some .free))
    | none => false) && freeB X N nt scope r (j + 1)
theorem freeB_at {X : Cx} {N : List Str} {nt : Nat} {scope : Scope} : ∀ {fr : List Nat} {k : Nat}, freeB X N nt scope fr k = true → ∀ (j i : Nat) (x : Str), fr[j]? = some i → N[nt + (k + j)]? = some x →
    X.N[i]? = some x ∧ scope.names.lookup x = some .free ∧ (X.env.kindOf x = some .cell ∨ X.env.kindOf x = some .free)
  | [], _, _, j, i, x, e, _ => by simp at e
  | i0 :: r, k, h, j, i, x, e1, e2 => by
    unfold freeB at h
    rw [Bool.and_eq_true] at h
    obtain ⟨h1, h2⟩ := h
    cases j with
    | zero =>
      have e1 : i0 = i := by simpa using e1
      subst e1
      rw [Nat.add_zero] at e2
      rw [e2] at h1
      simp only [Bool.and_eq_true, Bool.or_eq_true, decide_eq_true_eq] at h1
      exact ⟨h1.1.1, h1.1.2, h1.2⟩
    | succ j =>
      exact freeB_at h2 j i x (by simpa using e1) (by rw [show nt + (k + 1 + j) = nt + (k + (j + 1)) by omega]; exact e2)
theorem lookup_relabel {env : Env} : ∀ {names : List (Str × NameKind)} {x : Str} {k' : NameKind},
    (names.map fun (n, k) => if (k == NameKind.free && env.scope.kind == .function && env.kindOf n == some .cell) then (n, NameKind.cell) else (n, k)).lookup x = some k' →
    ∃ k, names.lookup x = some k ∧ (k = k' ∨ (k = .free ∧ k' = .cell))
  | [], _, _, h => by simp at h
  | (n, k) :: r, x, k', h => by
    have h : List.lookup x ((if (k == NameKind.free && env.scope.kind == .function && env.kindOf n == some .cell) = true then (n, NameKind.cell) else (n, k)) :: r.map _) = some k' := h
    cases hx : x == n with
    | true =>
      by_cases hc : (k == NameKind.free && env.scope.kind == .function && env.kindOf n == some .cell) = true
      · rw [if_pos hc] at h
        simp only [List.lookup_cons, hx] at h
        have hk : k = .free := by
          simp only [Bool.and_eq_true, beq_iff_eq] at hc
          exact hc.1.1
        exact ⟨k, by simp [List.lookup_cons, hx], .inr ⟨hk, (Option.some.inj h).symm⟩⟩
      · rw [if_neg hc] at h
        simp only [List.lookup_cons, hx] at h
        exact ⟨k, by simp [List.lookup_cons, hx], .inl (Option.some.inj h)⟩
    | false =>
      have h2 : List.lookup x (r.map fun (n, k) => if (k == NameKind.free && env.scope.kind == .function && env.kindOf n == some .cell) then (n, NameKind.cell) else (n, k)) = some k' := by
        by_cases hc : (k == NameKind.free && env.scope.kind == .function && env.kindOf n == some .cell) = true
        · rw [if_pos hc] at h; simpa only [List.lookup_cons, hx] using h
        · rw [if_neg hc] at h; simpa only [List.lookup_cons, hx] using h
      obtain ⟨k2, e2, o2⟩ := lookup_relabel h2
      exact ⟨k2, by simp only [List.lookup_cons, hx]; exact e2, o2⟩
theorem relabel_free {env : Env} : ∀ {names : List (Str × NameKind)} {x : Str}, names.lookup x = some .free →
    (names.map fun (n, k) => if (k == NameKind.free && env.scope.kind == .function && env.kindOf n == some .cell) then (n, NameKind.cell) else (n, k)).lookup x = some .cell ∨
    (names.map fun (n, k) => if (k == NameKind.free && env.scope.kind == .function && env.kindOf n == some .cell) then (n, NameKind.cell) else (n, k)).lookup x = some .free
  | [], _, h => by simp at h
  | (n, k) :: r, x, h => by
    show List.lookup x ((if (k == NameKind.free && env.scope.kind == .function && env.kindOf n == some .cell) = true then (n, NameKind.cell) else (n, k)) :: r.map _) = some .cell ∨ List.lookup x ((if (k == NameKind.free && env.scope.kind == .function && env.kindOf n == some .cell) = true then (n, NameKind.cell) else (n, k)) :: r.map _) = some .free
    cases hx : x == n with
    | true =>
      simp only [List.lookup_cons, hx] at h
      cases h
      by_cases hc : (NameKind.free == NameKind.free && env.scope.kind == .function && env.kindOf n == some .cell) = true
      · rw [if_pos hc]; left; simp [List.lookup_cons, hx]
      · rw [if_neg hc]; right; simp [List.lookup_cons, hx]
    | false =>
      simp only [List.lookup_cons, hx] at h
      have ih := relabel_free (env := env) h
      by_cases hc : (k == NameKind.free && env.scope.kind == .function && env.kindOf n == some .cell) = true
      · rw [if_pos hc]; simpa only [List.lookup_cons, hx] using ih
      · rw [if_neg hc]; simpa only [List.lookup_cons, hx] using ih
theorem closOf_has {env : Env} : ∀ {names : List (Str × NameKind)} {cl : List (Str × Addr)}, closOf env names = some cl → ∀ x, names.lookup x = some .free → ∃ c, cl.lookup x = some c
  | [], _, _, x, e => by simp at e
  | (n, k) :: r, cl, h, x, e => by
    unfold closOf at h
    by_cases hk : k = .free
    · rw [if_pos hk] at h
      cases hc : env.cells.lookup n with
      | none => rw [hc] at h; cases h
      | some c' =>
        rw [hc] at h
        have h : (closOf env r).map (fun cl => cl ++ [(n, c')]) = some cl := h
        cases hr : closOf env r with
        | none => rw [hr] at h; cases h
        | some cl' =>
          rw [hr] at h
          have h : cl' ++ [(n, c')] = cl := Option.some.inj h
          subst h
          rw [List.lookup_append]
          cases h2 : cl'.lookup x with
          | some c2 => exact ⟨c2, by simp⟩
          | none =>
            cases hx : x == n with
            | true => exact ⟨c', by simp [List.lookup_cons, hx]⟩
            | false =>
              simp only [List.lookup_cons, hx] at e
              obtain ⟨c3, e3⟩ := closOf_has hr x e
              rw [h2] at e3; cases e3
    · rw [if_neg hk] at h
      cases hx : x == n with
      | true =>
        simp only [List.lookup_cons, hx] at e
        exact absurd (Option.some.inj e) hk
      | false =>
        simp only [List.lookup_cons, hx] at e
        exact closOf_has h x e
theorem CompNames.of {X : Cx} {N : List Str} {nt : Nat} {fr : List Nat} {scope : Scope} {cl : List (Str × Addr)} (hcl : closOf X.env scope.names = some cl) (hlen : N.length = nt + fr.length) (hB : freeB X N nt scope fr 0 = true)
    (hcell : ∀ y ∈ scope.names, y.2 ≠ .cell) (hkind : scope.kind = .function) : CompNames X N nt fr scope cl where
  len := hlen
  free := fun j i x e1 e2 => by
    obtain ⟨h1, h2, h3⟩ := freeB_at hB j i x e1 (by rw [Nat.zero_add]; exact e2)
    exact ⟨h1, closOf_has hcl x h2, h3, relabel_free h2⟩
  cells := closOf_lookup hcl
  has := fun x hx => by
    have : scope.names.lookup x = some .free := by
      rcases hx with hx | hx
      · obtain ⟨k, e, o⟩ := lookup_relabel (names := scope.names) (env := X.env) hx
        rcases o with rfl | ⟨rfl, _⟩
        · exact absurd rfl (hcell _ (PySem.mem_of_lookup e))
        · exact e
      · obtain ⟨k, e, o⟩ := lookup_relabel (names := scope.names) (env := X.env) hx
        rcases o with rfl | ⟨rfl, _⟩
        · exact e
        · exact e
    exact closOf_has hcl x this
  kind := hkind
def PIf (X : Cx) (ifs : List Expr) (t : TT) : Prop :=
  ∀ (pins : List (Addr × Obj)) (s : Shared) (σ : St) (H : Hp) (Q : Bool → Hp → Prop), Inv X pins σ H s → t σ H Q →
    wpAny (model X.prog X.w) X.A (forIn ifs true fun c r => if r = true then do let ok ← isTrue c X.env (eval c X.env); pure (ForInStep.yield ok) else pure (ForInStep.yield r)) (TP X pins σ Q) X.xe s
def tTrue : TT := fun _ H Q => Q true H
theorem pif_nil {X : Cx} : PIf X [] tTrue := fun _ _ _ H _ I h => wpAny_pure ⟨H, I, h⟩
theorem pif_one {X : Cx} {c : Expr} {t : TT} (h : PT X c t) : PIf X [c] t := by
  intro pins s σ H Q I hw
  rw [List.forIn_cons]
  simp only [if_true]
  refine wpAny_bind (wpAny_bind (thn (h pins s σ H Q I hw) fun b s1 q => wpAny_pure ?_))
  exact wpAny_pure q
def CompGoal (J : It) (nt : Nat) (fr : List Nat) (g : TG) (c : TT) (te : TE) (σ : St) (H1 : Hp) (Q : VK) (acc : Addr) : Prop :=
  ∃ W : Nat → Nat → St → List V → Hp → Prop, (∃ m, W 0 m (compStart0 nt fr σ) [] (upd H1 acc (.lst []))) ∧ ∀ i m σ' ys H', W i m σ' ys H' → H' acc = some (.lst ys) ∧
    ((J.stop i H' ∧ Q (.ref acc) H') ∨ (J.go i H' ∧ ∀ x H2, J.yld i H' x H2 → g x σ' H2 fun σ2 H3 => c σ2 H3 fun b H4 => if b = true then
      te σ2 H4 fun y H5 => ys.length < sizeLine ∧ H5 acc = some (.lst ys) ∧ ∃ m', m' < m ∧ W (i + 1) m' σ2 (ys ++ [y]) (upd H5 acc (.lst (ys ++ [y])))
      else ∃ m', m' < m ∧ W (i + 1) m' σ2 ys H4))
def tComp (wi : TI) (nt : Nat) (fr : List Nat) (g : TG) (c : TT) (te : TE) : TE := fun σ H Q => wi σ H fun J H1 => ∀ acc, H1 acc = none → CompGoal J nt fr g c te σ H1 Q acc
section
variable {X : Cx} {target iter elt : Expr} {ifs : List Expr} {scope : Scope} {pos : Pos} {N : List Str} {nt : Nat} {fr : List Nat} {cl : List (Str × Addr)} {wi : TI} {g : TG} {c : TT} {te : TE}
theorem comp_fp {pins : List (Addr × Obj)} {σ : St} {H H1 : Hp} {s : Shared} {fp : List Addr} (I : Inv X pins σ H s) (cn : CompNames X N nt fr scope cl) (hf : ∀ b ∈ fp, FpOk X pins H b) (ho : ∀ b ∈ fp, b < s.heap.objs.size) {H' : Hp} (hn : ∀ b ∈ fp, H' b = none) :
    ∀ b ∈ fp, FpOk (cxComp X N scope cl pins s H1 fp) [] H' b := fun b hb =>
  ⟨hn b hb, Nat.ne_of_lt (ho b hb), fun z => (List.mem_cons.mp (I.stkSub b z)).elim (hf b hb).2.1 (hf b hb).2.2.1, .inl hb, fun x c e => (hf b hb).2.2.2.2.1 x c (cn.cells x c e), fun p hp => (hf b hb).2.2.2.2.2 p (by
    have hp : p ∈ (X.pn ++ pins) ++ [] := hp
    rw [List.append_nil] at hp
    exact hp)⟩
theorem comp_block {pins : List (Addr × Obj)} {σ : St} {s : Shared} {Q : VK} {itv : Value} {RR : Value → Addr → Result → Shared → Prop} {E : Value → Shared → Prop}
    (hc : X.calm = true) (cn : CompNames X N nt fr scope cl) (hcell : ∀ y ∈ scope.names, y.2 ≠ .cell)
    (hg : ∀ pins s H fp, PG (cxComp X N scope cl pins s H fp) target g) (hif : ∀ pins s H fp, PIf (cxComp X N scope cl pins s H fp) ifs c) (he : ∀ pins s H fp, PE (cxComp X N scope cl pins s H fp) elt te)
    (h : PIE X pins σ target (fun J H1 => ∀ acc, H1 acc = none → CompGoal J nt fr g c te σ H1 Q acc) itv s)
    (hRR : ∀ (acc C : Addr) (s' : Shared) (H' : Hp), (∃ m, s'.heap.Ns C m) → Inv X pins σ H' s' → FpOk X pins H' C → Q (.ref acc) H' → RR (.ref acc) C (.ok .next) s') :
    wpAny (model X.prog X.w) X.A (newList []) (fun acc s₃ => wpAny (model X.prog X.w) X.A (newFunctionEnv scope X.env.globals cl [] X.env.qual none .none (some X.env)) (fun cenv s₄ =>
      codeAny (model X.prog X.w) X.A (.compStart (.ListComp elt [⟨target, iter, ifs, 0⟩] scope pos) 0 itv acc { cenv with scope := relabel scope X.env }) (RR acc cenv.locals) s₄) E s₃) E s := by
  obtain ⟨it, fp, tn, J, H2, e, I2, T, st2, f2, R⟩ := h
  subst e
  have fo : ∀ b ∈ fp, b < s.heap.objs.size := fun b hb => let ⟨o, e, _⟩ := T.obj 0 _ st2 b hb; Heap.lt_size e
  refine wpAny_newObj_type (wpAny_newFunctionEnv hcell (by intro y hy; simp at hy) (fun h₁ hns₁ hsb₁ => ?_) cn.kind)
  dsimp only at hns₁ hsb₁ ⊢
  have ha : H2 s.heap.objs.size = none := I2.hok.fresh (Nat.le_refl _)
  have I3 : Inv X pins σ (upd H2 s.heap.objs.size (.lst [])) { s with heap := s.heap.push { cls := .type "list", data := .seq ([] : List Value).toArray } } :=
    I2.laid (t' := s.toks) (fun b u e => Heap.get?_push_of_some _ e) (Nat.le_refl _) ⟨Nat.zero_le _, [], 0, .nil, Heap.get?_push_size _ rfl⟩
  generalize hs3 : ({ s with heap := s.heap.push { cls := .type "list", data := .seq ([] : List Value).toArray } } : Shared) = s3 at I3
  have hh3 : s3.heap = s.heap.push { cls := .type "list", data := .seq ([] : List Value).toArray } := by rw [← hs3]
  have hsz : s3.heap.objs.size = s.heap.objs.size + 1 := by rw [hh3, Heap.size_push]
  have fne : ∀ b ∈ fp, b ≠ s.heap.objs.size := fun b hb => Nat.ne_of_lt (fo b hb)
  have f3 : ∀ b ∈ fp, FpOk X pins (upd H2 s.heap.objs.size (.lst [])) b := fun b hb => ⟨by rw [upd_ne (fne b hb)]; exact (f2 b hb).1, (f2 b hb).2⟩
  have fo3 : ∀ b ∈ fp, b < s3.heap.objs.size := fun b hb => by rw [hsz]; exact Nat.lt_succ_of_lt (fo b hb)
  have k3 : ∀ b o, s3.heap.get? b = some o → h₁.get? b = some o := fun b o e => hsb₁.extBut b o (by rw [← hh3]; exact Nat.ne_of_lt (Heap.lt_size e)) (by rw [← hh3]; exact Heap.get?_push_of_some _ e)
  have hns : ∃ m, h₁.Ns s3.heap.objs.size m := ⟨_, by rw [hh3]; exact hns₁⟩
  have I4 : Inv (cxComp X N scope cl pins s3 (upd H2 s.heap.objs.size (.lst [])) fp) [] (compStart0 nt fr σ) (upd H2 s.heap.objs.size (.lst [])) { s3 with heap := h₁, toks := s3.toks + ([] : List (Str × Value)).length } := comp_inv I3 cn f3 fo3 k3 hns
  have st4 : tn 0 h₁ := T.keep 0 _ _ st2 fun b hb o e => k3 b o (by rw [hh3]; exact Heap.get?_push_of_some _ e)
  obtain ⟨W, ⟨m0, w0⟩, turn⟩ := R s.heap.objs.size ha
  have stat : ∀ {H' : Hp}, (∀ b ∈ fp, H' b = none) → ∀ b ∈ fp, FpOk (cxComp X N scope cl pins s3 (upd H2 s.heap.objs.size (.lst [])) fp) [] H' b := fun hn => comp_fp I3 cn f3 fo3 hn
  have hH : Un (frs X.stack) fp H2 (upd H2 s.heap.objs.size (.lst [])) s.heap s3.heap := by
    rw [hh3]
    exact Un.laid (fun b u e => Heap.get?_push_of_some _ e) (Nat.le_refl _) ha
  have back : ∀ {σ' : St} {H' : Hp} {s' : Shared} {h' : Heap}, Inv (cxComp X N scope cl pins s3 (upd H2 s.heap.objs.size (.lst [])) fp) [] σ' H' s' → Heap.SameBut s3.heap.objs.size s'.heap h' → Inv X pins σ H' { s' with heap := h' } := fun J' sb =>
    comp_back I2 (by rw [hsz]; exact Nat.le_succ _) (by rw [← hs3]) hH f2 J' sb
  have loop : codeAny (model X.prog X.w) X.A (.compLoop (.ListComp elt [⟨target, iter, ifs, 0⟩] scope pos) 0 (.ref it) (.ref s.heap.objs.size) (compEnvC scope cl s3.heap.objs.size X.env)) (RR (.ref s.heap.objs.size) s3.heap.objs.size)
      { s3 with heap := h₁, toks := s3.toks + ([] : List (Str × Value)).length } := by
    refine comp_loop (fun n s' => ∃ i σ' ys H', Inv (cxComp X N scope cl pins s3 (upd H2 s.heap.objs.size (.lst [])) fp) [] σ' H' s' ∧ tn i s'.heap ∧ (∀ b ∈ fp, H' b = none) ∧ W i n σ' ys H') ?_ m0
      ⟨0, _, [], _, I4, st4, fun b hb => (f3 b hb).1, w0⟩
    rintro n s5 ⟨i, σ5, ys, H5, I5, st5, fr5, w5⟩
    obtain ⟨hacc, step⟩ := turn i n σ5 ys H5 w5
    rcases step with ⟨stop, q⟩ | ⟨go, step⟩
    · refine thn (T.done (cxComp X N scope cl pins s3 (upd H2 s.heap.objs.size (.lst [])) fp) rfl rfl rfl hc i [] s5 σ5 H5 (fun _ _ => False) I5 (stat fr5) st5 stop) fun r s6 ⟨hr, I6⟩ => ?_
      subst hr
      obtain ⟨m, hm, _⟩ := I6.loc
      exact hRR _ _ s6 H5 ⟨m, hm⟩ (back I6 (Heap.SameBut.refl _ _)) (I2.fpOk (by rw [hsz]; exact Nat.le_succ _) I6.free) q
    · refine thn (T.item (cxComp X N scope cl pins s3 (upd H2 s.heap.objs.size (.lst [])) fp) rfl rfl rfl hc i [] s5 σ5 H5 (fun _ _ => False) I5 (stat fr5) st5 go) fun r s6 ⟨u, hr, h6⟩ => ?_
      subst hr
      refine thn h6 fun _ s7 ⟨x, H7, I7, r7, y7, st7, fr7⟩ => ?_
      have I7' := I7.pinned (stat fr7) (T.obj _ _ st7)
      refine thn (hg pins s3 _ fp _ s7 σ5 H7 x u _ I7' r7 (step x H7 y7)) fun _ s8 ⟨σ8, H8, I8, q8⟩ => ?_
      have keepT : ∀ {σ' : St} {H' : Hp} {s' : Shared}, Inv (cxComp X N scope cl pins s3 (upd H2 s.heap.objs.size (.lst [])) fp) ([] ++ pinsAt fp s7.heap) σ' H' s' → tn (i + 1) s'.heap ∧ ∀ b ∈ fp, H' b = none := fun {σ' H' s'} I' =>
        ⟨T.keep _ _ _ st7 fun b hb o e => (I'.pin (b, o) (List.mem_append_right _ (List.mem_append_right _ (mem_pinsAt hb e)))).1, fun b hb => by
          obtain ⟨o, e, d⟩ := T.obj _ _ st7 b hb
          exact (I'.pin (b, o) (List.mem_append_right _ (List.mem_append_right _ (mem_pinsAt hb e)))).2.1⟩
      refine thn (hif pins s3 _ fp _ s8 σ8 H8 _ I8 q8) fun ok s9 ⟨H9, I9, q9⟩ => ?_
      cases ok with
      | false =>
        have q9 : ∃ m', m' < n ∧ W (i + 1) m' σ8 ys H9 := q9
        obtain ⟨m', hm, w9⟩ := q9
        exact ⟨m', hm, i + 1, σ8, ys, H9, I9.unpinned, (keepT I9).1, (keepT I9).2, w9⟩
      | true =>
        rw [if_pos rfl]
        refine thn (he pins s3 _ fp _ s9 σ8 H9 _ I9 q9) fun z s10 ⟨y, H10, I10, r10, hz, ha10, m', hm, w10⟩ => ?_
        refine thn (mt_append _ s10 σ8 H10 (.ref s.heap.objs.size) [y] (.ref s.heap.objs.size) [z] (fun v H' => v = .non ∧ H' = upd H10 s.heap.objs.size (.lst (ys ++ [y]))) I10 rfl (.cons r10 .nil) ⟨_, ys, y, rfl, rfl, ha10, hz, rfl, rfl⟩) fun v s11 ⟨_, H11, I11, _, _, e11⟩ => ?_
        subst e11
        exact ⟨m', hm, i + 1, σ8, ys ++ [y], _, I11.unpinned, (keepT I11).1, (keepT I11).2, w10⟩
  have fin : codeAny (model X.prog X.w) X.A (.compStart (.ListComp elt [⟨target, iter, ifs, 0⟩] scope pos) 0 (.ref it) (.ref s.heap.objs.size) (compEnvC scope cl s3.heap.objs.size X.env)) (RR (.ref s.heap.objs.size) s3.heap.objs.size)
      { s3 with heap := h₁, toks := s3.toks + ([] : List (Str × Value)).length } :=
    codeAny_compStart_list loop (T.self _ 0 _ _ _ st4 loop)
  rw [← hs3] at fin
  exact fin
theorem pe_comp (hi : PI X target iter wi) (hg : ∀ pins s H fp, PG (cxComp X N scope cl pins s H fp) target g) (hif : ∀ pins s H fp, PIf (cxComp X N scope cl pins s H fp) ifs c) (he : ∀ pins s H fp, PE (cxComp X N scope cl pins s H fp) elt te)
    (hc : X.calm = true := by rfl) (hcl : closOf X.env scope.names = some cl := by rfl) (hlen : N.length = nt + fr.length := by rfl) (hB : freeB X N nt scope fr 0 = true := by rfl)
    (hcell : ∀ y ∈ scope.names, y.2 ≠ .cell := by decide +kernel) (hkind : scope.kind = .function := by rfl) (hnames : ∀ y ∈ scope.names, y.2 = .local → scope.names.lookup y.1 = some .local := by decide +kernel)
    (hs : ∀ x, foldedSetIterable iter X.env x = pure x := by intro _; rfl) : PE X (.ListComp elt [⟨target, iter, ifs, 0⟩] scope pos) (tComp wi nt fr g c te) := by
  intro pins s σ H Q I h
  rw [eval_ListComp]
  refine wpAny_comprehension_free (use := none) rfl hs (closureFor_of hcl) hkind hnames (thn (hi pins s σ H _ I h) fun xv s1 h1 => thn h1 fun itv s2 h2 => ?_)
  exact comp_block hc (CompNames.of hcl hlen hB hcell hkind) hcell hg hif he h2 fun acc C s' H' ⟨m, hm⟩ hI hF hq => ⟨m, hm, fun h' sb => ⟨.ref acc, H', hI.turned (t' := s'.toks) (fun b o hb e => sb.extBut b o hb e) hF.1 hF.2.1 hF.2.2.2.1 hF.2.2.2.2.1 hF.2.2.2.2.2, rfl, hq⟩⟩
theorem ps_setc {i : Nat} {y : Str} {py spos : Pos} (hN : X.N.Nodup) (hyi : X.N[i]? = some y) (hy : Loc X.env.scope y) (hi : PI X target iter wi) (hg : ∀ pins s H fp, PG (cxComp X N scope cl pins s H fp) target g) (hif : ∀ pins s H fp, PIf (cxComp X N scope cl pins s H fp) ifs c) (he : ∀ pins s H fp, PE (cxComp X N scope cl pins s H fp) elt te)
    (hsw : swapsWith (.ListComp elt [⟨target, iter, ifs, 0⟩] scope pos) (some (.Name y py)) spos.line X.env = pure true := by rfl)
    (hc : X.calm = true := by rfl) (hcl : closOf X.env scope.names = some cl := by rfl) (hlen : N.length = nt + fr.length := by rfl) (hB : freeB X N nt scope fr 0 = true := by rfl)
    (hcell : ∀ y ∈ scope.names, y.2 ≠ .cell := by decide +kernel) (hkind : scope.kind = .function := by rfl) (hnames : ∀ y ∈ scope.names, y.2 = .local → scope.names.lookup y.1 = some .local := by decide +kernel)
    (hs : ∀ x, foldedSetIterable iter X.env x = pure x := by intro _; rfl) (hf : X.fn y = true ∨ X.env.scope.names.lookup y = some .local := by first | exact .inl rfl | exact .inr rfl | assumption) :
    PS X (.Assign [.Name y py] (.ListComp elt [⟨target, iter, ifs, 0⟩] scope pos) spos) (tAsg (tComp wi nt fr g c te) (gName i)) := by
  intro pins s σ H D I h
  rw [exec_Assign_Name_used _ _ _ _ hsw]
  refine wpAny_bind (wpAny_standAt (wpAny_bind ?_))
  show wpAny _ X.A (do let _ ← comprehension (.ListComp elt [⟨target, iter, ifs, 0⟩] scope pos) scope X.env _ (newList []) false (eval iter X.env) (some (assign (.Name y py) X.env))) _ _ s
  refine wpAny_bind (wpAny_mono (wpAny_comprehension_free (use := some (assign (.Name y py) X.env)) (Q := fun _ s' => SP X pins D .next s') rfl hs (closureFor_of hcl) hkind hnames (thn (hi pins s σ H _ I h) fun xv s1 h1 => thn h1 fun itv s2 h2 => ?_)) (fun _ s' hq => wpAny_pure (wpAny_pure hq)) fun _ _ e => e)
  refine comp_block (Q := fun x H1 => gName i x σ H1 D.nx) (RR := fun acc C => compPost (model X.prog X.w) X.A X.xe (some (assign (.Name y py) X.env)) (fun _ s' => SP X pins D .next s') acc C) hc (CompNames.of hcl hlen hB hcell hkind) hcell hg hif he h2 fun acc C s' H' ⟨m, hm⟩ hI hF hq => ?_
  show wpAny _ X.A (assign (.Name y py) X.env (.ref acc)) _ _ _
  refine wpAny_assign_Name (store_ok2 hI hN hyi hy (v := .ref acc) rfl (fun s3 I3 ⟨a, sb, ha⟩ => ?_) hf)
  have hne : C ≠ a := by
    rcases ha with rfl | ha
    · exact hF.2.1
    · exact fun z => hF.2.2.2.2.1 y a ha z.symm
  refine ⟨m, hm.sameBut sb hne, fun h' sb' => ⟨_, H', I3.turned (t' := s3.toks) (fun b o hb e => sb'.extBut b o hb e) hF.1 hF.2.1 hF.2.2.2.1 hF.2.2.2.2.1 hF.2.2.2.2.2, hq⟩⟩
end
structure ItemsOf (J : It) (xs : List V) (L : Hp → Prop) : Prop where
  go : ∀ i H, L H → i < xs.length → J.go i H
  yld : ∀ i H x H', L H → i < xs.length → J.yld i H x H' → H' = H ∧ xs[i]? = some x
  stop : ∀ H, L H → J.stop xs.length H
theorem items_list {K : PySem.W.Frag} {a : Addr} {xs : List V} : ItemsOf (Itl K a) xs (fun H => SqL K H a xs) :=
  ⟨fun i H h hi => ⟨xs, xs[i], h, by simp [hi]⟩, fun i H x H' h hi y => ⟨y.1, y.2 xs h⟩, fun H h => ⟨xs, h, Nat.le_refl _⟩⟩
def CompW (xs : List V) (nt : Nat) (fvs : St) (Pv : Nat → List V → Hp → Prop) : Nat → Nat → St → List V → Hp → Prop := fun i m σ' ys H' =>
  m = xs.length - i ∧ i ≤ xs.length ∧ Pv i ys H' ∧ ∃ tv : List (Option V), tv.length = nt ∧ σ' = tv ++ fvs
theorem CompW.next {xs : List V} {nt : Nat} {fvs : St} {Pv : Nat → List V → Hp → Prop} {i : Nat} {tv : List (Option V)} {ys : List V} {H : Hp} (hi : i < xs.length) (p : Pv (i + 1) ys H) (ht : tv.length = nt) :
    ∃ m', m' < xs.length - i ∧ CompW xs nt fvs Pv (i + 1) m' (tv ++ fvs) ys H := ⟨xs.length - (i + 1), by omega, rfl, hi, p, tv, ht, rfl⟩
theorem comp_by {J : It} {xs : List V} {L : Hp → Prop} {σ : St} {H1 : Hp} {nt : Nat} {fr : List Nat} {g : TG} {c : TT} {te : TE} {Q : VK} {acc : Addr} (it : ItemsOf J xs L) (Pv : Nat → List V → Hp → Prop)
    (h0 : Pv 0 [] (upd H1 acc (.lst []))) (hL : ∀ i ys H', i ≤ xs.length → Pv i ys H' → L H' ∧ H' acc = some (.lst ys))
    (turn : ∀ i x tv ys H', xs[i]? = some x → i < xs.length → Pv i ys H' → tv.length = nt → g x (tv ++ fr.map fun i => (σ[i]?).getD none) H' fun σ2 H3 =>
      c σ2 H3 fun b H4 => if b = true then te σ2 H4 fun y H5 => ys.length < sizeLine ∧ H5 acc = some (.lst ys) ∧ ∃ m', m' < xs.length - i ∧ CompW xs nt (fr.map fun i => (σ[i]?).getD none) Pv (i + 1) m' σ2 (ys ++ [y]) (upd H5 acc (.lst (ys ++ [y])))
        else ∃ m', m' < xs.length - i ∧ CompW xs nt (fr.map fun i => (σ[i]?).getD none) Pv (i + 1) m' σ2 ys H4)
    (hd : ∀ ys H', Pv xs.length ys H' → Q (.ref acc) H') : CompGoal J nt fr g c te σ H1 Q acc := by
  refine ⟨CompW xs nt (fr.map fun i => (σ[i]?).getD none) Pv, ⟨xs.length, by simp, Nat.zero_le _, h0, List.replicate nt none, by simp, rfl⟩, ?_⟩
  rintro i m σ' ys H' ⟨rfl, hi, p, tv, htv, rfl⟩
  obtain ⟨l, ha⟩ := hL i ys H' hi p
  refine ⟨ha, ?_⟩
  by_cases hlt : i < xs.length
  · refine .inr ⟨it.go i H' l hlt, fun x H2 y => ?_⟩
    obtain ⟨rfl, hx⟩ := it.yld i H' x H2 l hlt y
    exact turn i x tv ys H2 hx hlt p htv
  · have e : i = xs.length := by omega
    subst e
    exact .inl ⟨it.stop H' l, hd ys H' p⟩
end L2
namespace L2
open PySem PySem.Spec PyProof.Rows PySem.SeqAt
inductive Dt where
  | non | bl (b : Bool) | int (i : Int) | str (x : Str) | lst (xs : List Dt) | tup (xs : List Dt)
mutual
def Rep (K : PySem.W.Frag) (H : Hp) : Dt → V → Prop
  | .non, v => v = .non
  | .bl b, v => v = .bl b
  | .int i, v => v = .int i
  | .str x, v => v = .str x
  | .lst ds, v => ∃ p xs, v = .ref p ∧ SqL K H p xs ∧ Reps K H ds xs
  | .tup ds, v => ∃ p xs, v = .ref p ∧ SqT K H p xs ∧ Reps K H ds xs
def Reps (K : PySem.W.Frag) (H : Hp) : List Dt → List V → Prop
  | [], xs => xs = []
  | d :: ds, xs => ∃ x r, xs = x :: r ∧ Rep K H d x ∧ Reps K H ds r
end
mutual
def eqDt : Dt → Dt → Bool
  | .non, .non => true
  | .bl a, .bl b => a == b
  | .bl a, .int b => (if a then 1 else 0) == b
  | .int a, .bl b => a == (if b then 1 else 0)
  | .int a, .int b => a == b
  | .str a, .str b => a == b
  | .lst xs, .lst ys => eqDts xs ys
  | .tup xs, .tup ys => eqDts xs ys
  | _, _ => false
def eqDts : List Dt → List Dt → Bool
  | [], [] => true
  | x :: xs, y :: ys => eqDt x y && eqDts xs ys
  | _, _ => false
end
mutual
def depD : Dt → Nat
  | .lst xs => depDs xs + 1
  | .tup xs => depDs xs + 1
  | _ => 0
def depDs : List Dt → Nat
  | [] => 0
  | x :: xs => max (depD x) (depDs xs)
end
theorem Reps.length {K : PySem.W.Frag} {H : Hp} : ∀ {ds : List Dt} {xs : List V}, Reps K H ds xs → ds.length = xs.length
  | [], xs, h => by rw [show xs = [] from by simpa [Reps] using h]; rfl
  | d :: ds, xs, h => by
    obtain ⟨x, r, rfl, _, h2⟩ : ∃ x r, xs = x :: r ∧ Rep K H d x ∧ Reps K H ds r := by simpa [Reps] using h
    simp [Reps.length h2]
theorem Reps.get {K : PySem.W.Frag} {H : Hp} : ∀ {ds : List Dt} {xs : List V} {j : Nat} {d : Dt}, Reps K H ds xs → ds[j]? = some d → ∃ x, xs[j]? = some x ∧ Rep K H d x
  | [], _, _, _, _, e => by simp at e
  | d0 :: ds, xs, j, d, h, e => by
    obtain ⟨x, r, rfl, h1, h2⟩ : ∃ x r, xs = x :: r ∧ Rep K H d0 x ∧ Reps K H ds r := by simpa [Reps] using h
    cases j with
    | zero =>
      have e : d0 = d := by simpa using e
      subst e
      exact ⟨x, rfl, h1⟩
    | succ j =>
      obtain ⟨y, e1, e2⟩ := Reps.get (j := j) h2 (by simpa using e)
      exact ⟨y, by simpa using e1, e2⟩
theorem depDs_get : ∀ {ds : List Dt} {j : Nat} {d : Dt}, ds[j]? = some d → depD d ≤ depDs ds
  | [], _, _, e => by simp at e
  | d0 :: ds, j, d, e => by
    cases j with
    | zero =>
      have e : d0 = d := by simpa using e
      subst e
      simp only [depDs]; omega
    | succ j =>
      have := depDs_get (ds := ds) (j := j) (d := d) (by simpa using e)
      simp only [depDs]; omega
theorem eqDts_all : ∀ (ds es : List Dt), ds.length = es.length → ((List.range ds.length).all fun j => eqDt (ds.getD j .non) (es.getD j .non)) = eqDts ds es
  | [], [], _ => rfl
  | [], _ :: _, h => by simp at h
  | _ :: _, [], h => by simp at h
  | d :: ds, e :: es, h => by
    have h : ds.length = es.length := by simpa using h
    rw [List.length_cons, List.range_succ_eq_map, List.all_cons, List.all_map]
    have := eqDts_all ds es h
    simp only [eqDts]
    rw [← this]
    rfl
theorem eqDts_length : ∀ (ds es : List Dt), ds.length ≠ es.length → eqDts ds es = false
  | [], [], h => by simp at h
  | [], _ :: _, _ => rfl
  | _ :: _, [], _ => rfl
  | d :: ds, e :: es, h => by
    have h : ds.length ≠ es.length := fun z => h (by simp [z])
    simp only [eqDts, eqDts_length ds es h, Bool.and_false]
mutual
theorem eqDt_refl : ∀ d : Dt, eqDt d d = true
  | .non => rfl
  | .bl b => by simp [eqDt]
  | .int i => by simp [eqDt]
  | .str x => by simp [eqDt]
  | .lst xs => by simp only [eqDt]; exact eqDts_refl xs
  | .tup xs => by simp only [eqDt]; exact eqDts_refl xs
theorem eqDts_refl : ∀ ds : List Dt, eqDts ds ds = true
  | [] => rfl
  | d :: ds => by simp only [eqDts, eqDt_refl d, eqDts_refl ds, Bool.and_true]
end
section
variable {X : Cx} {pins : List (Addr × Obj)} {σ : St} {H : Hp} {s : Shared}
theorem lst_not_tup {a : Addr} {xs ys : List V} (I : Inv X pins σ H s) (h : SqL X.K H a xs) (h' : SqT X.K H a ys) : False := by
  obtain ⟨its, _, pl, _⟩ := I.list h
  obtain ⟨its', _, pt, _⟩ := I.tuple h'
  obtain ⟨o, n, e, c, _, _⟩ := pl
  obtain ⟨o', e', c', _⟩ := pt
  rw [e] at e'; cases e'
  rw [c] at c'
  exact absurd c' (by decide)
mutual
theorem rep_inj (I : Inv X pins σ H s) : ∀ (d d' : Dt) (v : V), Rep X.K H d v → Rep X.K H d' v → d = d'
  | .non, d', v, h, h' => by
    have h : v = .non := by simpa [Rep] using h
    subst h
    cases d' <;> simp [Rep] at h' <;> rfl
  | .bl b, d', v, h, h' => by
    have h : v = .bl b := by simpa [Rep] using h
    subst h
    cases d' <;> simp [Rep] at h'
    rw [h']
  | .int b, d', v, h, h' => by
    have h : v = .int b := by simpa [Rep] using h
    subst h
    cases d' <;> simp [Rep] at h'
    rw [h']
  | .str b, d', v, h, h' => by
    have h : v = .str b := by simpa [Rep] using h
    subst h
    cases d' <;> simp [Rep] at h'
    rw [h']
  | .lst ds, d', v, h, h' => by
    obtain ⟨p, xs, rfl, hq, hr⟩ : ∃ p xs, v = .ref p ∧ SqL X.K H p xs ∧ Reps X.K H ds xs := by simpa only [Rep] using h
    cases d' with
    | lst es =>
      obtain ⟨p', ys, e, hq', hr'⟩ : ∃ p' ys, V.ref p = .ref p' ∧ SqL X.K H p' ys ∧ Reps X.K H es ys := by simpa only [Rep] using h'
      cases e
      rw [I.list_inj hq' hq] at hr'
      rw [reps_inj I ds es xs hr hr']
    | tup es =>
      obtain ⟨p', ys, e, hq', hr'⟩ : ∃ p' ys, V.ref p = .ref p' ∧ SqT X.K H p' ys ∧ Reps X.K H es ys := by simpa only [Rep] using h'
      cases e
      exact (lst_not_tup I hq hq').elim
    | _ => simp [Rep] at h'
  | .tup ds, d', v, h, h' => by
    obtain ⟨p, xs, rfl, hq, hr⟩ : ∃ p xs, v = .ref p ∧ SqT X.K H p xs ∧ Reps X.K H ds xs := by simpa only [Rep] using h
    cases d' with
    | tup es =>
      obtain ⟨p', ys, e, hq', hr'⟩ : ∃ p' ys, V.ref p = .ref p' ∧ SqT X.K H p' ys ∧ Reps X.K H es ys := by simpa only [Rep] using h'
      cases e
      rw [I.tuple_inj hq' hq] at hr'
      rw [reps_inj I ds es xs hr hr']
    | lst es =>
      obtain ⟨p', ys, e, hq', hr'⟩ : ∃ p' ys, V.ref p = .ref p' ∧ SqL X.K H p' ys ∧ Reps X.K H es ys := by simpa only [Rep] using h'
      cases e
      exact (lst_not_tup I hq' hq).elim
    | _ => simp [Rep] at h'
theorem reps_inj (I : Inv X pins σ H s) : ∀ (ds es : List Dt) (xs : List V), Reps X.K H ds xs → Reps X.K H es xs → ds = es
  | [], es, xs, h, h' => by
    have h : xs = [] := by simpa [Reps] using h
    subst h
    cases es with
    | nil => rfl
    | cons e es => simp [Reps] at h'
  | d :: ds, es, xs, h, h' => by
    obtain ⟨x, r, rfl, h1, h2⟩ : ∃ x r, xs = x :: r ∧ Rep X.K H d x ∧ Reps X.K H ds r := by simpa only [Reps] using h
    cases es with
    | nil => simp [Reps] at h'
    | cons e es =>
      obtain ⟨x', r', e', h1', h2'⟩ : ∃ x' r', x :: r = x' :: r' ∧ Rep X.K H e x' ∧ Reps X.K H es r' := by simpa only [Reps] using h'
      cases e'
      rw [rep_inj I d e x h1 h1', reps_inj I ds es r h2 h2']
end
structure Eq3 (A : Around) (s : Shared) (u v : Value) (b : Bool) : Prop where
  eq : EqAt A s u v b
  rc : RcAt A s u v b
  ne : RcNeAt A s u v (!b)
theorem items_eq (I : Inv X pins σ H s) {n : Nat} {A : Around} (ih : ∀ (d d' : Dt) (x y : V) (u v : Value), depD d ≤ n → Rep X.K H d x → Rep X.K H d' y → RelV x u → RelV y v → Eq3 A.in1 s u v (eqDt d d'))
    {ds es : List Dt} {xs ys : List V} {us vs : List Value} (hd : depDs ds ≤ n) (hx : Reps X.K H ds xs) (hy : Reps X.K H es ys) (ru : Vals xs us) (rv : Vals ys vs) :
    ∀ j (h1 : j < us.toArray.size) (h2 : j < vs.toArray.size), EqAt A.in1 s us.toArray[j] vs.toArray[j] (eqDt (ds.getD j .non) (es.getD j .non)) := by
  intro j h1 h2
  have l1 : j < ds.length := by rw [hx.length, ru.length]; simpa using h1
  have l2 : j < es.length := by rw [hy.length, rv.length]; simpa using h2
  have e1 : ds[j]? = some ds[j] := by simp [l1]
  have e2 : es[j]? = some es[j] := by simp [l2]
  obtain ⟨x, ex, rx⟩ := hx.get e1
  obtain ⟨y, ey, ry⟩ := hy.get e2
  obtain ⟨u, eu, qu⟩ := ru.get ex
  obtain ⟨v, ev, qv⟩ := rv.get ey
  have h1' : j < us.length := by simpa using h1
  have h2' : j < vs.length := by simpa using h2
  have z1 : us.toArray[j] = u := by
    have : us[j]? = some us[j] := by simp [h1']
    rw [this] at eu
    simpa using eu
  have z2 : vs.toArray[j] = v := by
    have : vs[j]? = some vs[j] := by simp [h2']
    rw [this] at ev
    simpa using ev
  rw [z1, z2]
  have g1 : ds.getD j .non = ds[j] := by simp [List.getD, l1]
  have g2 : es.getD j .non = es[j] := by simp [List.getD, l2]
  rw [g1, g2]
  exact (ih _ _ x y u v (Nat.le_trans (depDs_get e1) hd) rx ry qu qv).eq
theorem eq3_lists (I : Inv X pins σ H s) {n : Nat} {A : Around} (hu : A.units < cLine) (ih : ∀ (d d' : Dt) (x y : V) (u v : Value), depD d ≤ n → Rep X.K H d x → Rep X.K H d' y → RelV x u → RelV y v → Eq3 A.in1 s u v (eqDt d d'))
    {ds es : List Dt} {p q : Addr} (hd : depDs ds ≤ n) (hp : Rep X.K H (.lst ds) (.ref p)) (hq : Rep X.K H (.lst es) (.ref q)) : Eq3 A s (.ref p) (.ref q) (eqDts ds es) := by
  obtain ⟨p', xs, e, lx, hx⟩ : ∃ p' xs, V.ref p = .ref p' ∧ SqL X.K H p' xs ∧ Reps X.K H ds xs := by simpa only [Rep] using hp
  cases e
  obtain ⟨q', ys, e, ly, hy⟩ : ∃ q' ys, V.ref q = .ref q' ∧ SqL X.K H q' ys ∧ Reps X.K H es ys := by simpa only [Rep] using hq
  cases e
  obtain ⟨us, ru, pu, _⟩ := I.list lx
  obtain ⟨vs, rv, pv', _⟩ := I.list ly
  have both : RcAt A s (.ref p) (.ref q) (eqDts ds es) ∧ RcNeAt A s (.ref p) (.ref q) (!eqDts ds es) := by
    by_cases hl : ds.length = es.length
    · have hsz : us.toArray.size = vs.toArray.size := by simp [← ru.length, ← rv.length, ← hx.length, ← hy.length, hl]
      have hz : us.toArray.size = ds.length := by simp [← ru.length, ← hx.length]
      have a := RcAt.lists pu.isList pv'.isList hsz hu (items_eq I ih hd hx hy ru rv)
      have b := RcNeAt.lists pu.isList pv'.isList hsz hu (items_eq I ih hd hx hy ru rv)
      rw [hz, eqDts_all ds es hl] at a b
      exact ⟨a, b⟩
    · have hsz : (us.toArray.size != vs.toArray.size) = true := by simp [← ru.length, ← rv.length, ← hx.length, ← hy.length, hl]
      rw [eqDts_length ds es hl]
      exact ⟨RcAt.lists_lengths pu.isList pv'.isList hsz hu, RcNeAt.lists_lengths pu.isList pv'.isList hsz hu⟩
  refine ⟨?_, both.1, both.2⟩
  by_cases hpq : p = q
  · subst hpq
    have : ds = es := by
      rw [I.list_inj ly lx] at hy
      exact reps_inj I ds es xs hx hy
    subst this
    rw [eqDts_refl]
    exact EqAt.same _
  · exact EqAt.of_refs hpq both.1
theorem eq3_tups (I : Inv X pins σ H s) {n : Nat} {A : Around} (hu : A.units < cLine) (ih : ∀ (d d' : Dt) (x y : V) (u v : Value), depD d ≤ n → Rep X.K H d x → Rep X.K H d' y → RelV x u → RelV y v → Eq3 A.in1 s u v (eqDt d d'))
    {ds es : List Dt} {p q : Addr} (hd : depDs ds ≤ n) (hp : Rep X.K H (.tup ds) (.ref p)) (hq : Rep X.K H (.tup es) (.ref q)) : Eq3 A s (.ref p) (.ref q) (eqDts ds es) := by
  obtain ⟨p', xs, e, lx, hx⟩ : ∃ p' xs, V.ref p = .ref p' ∧ SqT X.K H p' xs ∧ Reps X.K H ds xs := by simpa only [Rep] using hp
  cases e
  obtain ⟨q', ys, e, ly, hy⟩ : ∃ q' ys, V.ref q = .ref q' ∧ SqT X.K H q' ys ∧ Reps X.K H es ys := by simpa only [Rep] using hq
  cases e
  obtain ⟨us, ru, pu, _⟩ := I.tuple lx
  obtain ⟨vs, rv, pv', _⟩ := I.tuple ly
  have hz : us.toArray.size = ds.length := by simp [← ru.length, ← hx.length]
  have hz' : vs.toArray.size = es.length := by simp [← rv.length, ← hy.length]
  have key : ((List.range (min us.toArray.size vs.toArray.size)).all (fun j => eqDt (ds.getD j .non) (es.getD j .non)) && us.toArray.size == vs.toArray.size) = eqDts ds es := by
    rw [hz, hz']
    by_cases hl : ds.length = es.length
    · rw [← hl, Nat.min_self, eqDts_all ds es hl]; simp
    · rw [eqDts_length ds es hl]; simp [hl]
  have a := RcAt.tuples pu pv' hu (items_eq I ih hd hx hy ru rv)
  have b := RcNeAt.tuples pu pv' hu (items_eq I ih hd hx hy ru rv)
  rw [key] at a b
  refine ⟨?_, a, b⟩
  by_cases hpq : p = q
  · subst hpq
    have : ds = es := by
      rw [I.tuple_inj ly lx] at hy
      exact reps_inj I ds es xs hx hy
    subst this
    rw [eqDts_refl]
    exact EqAt.same _
  · exact EqAt.of_refs hpq a
end
section
variable {X : Cx} {pins : List (Addr × Obj)} {σ : St} {H : Hp} {s : Shared}
theorem rep_ref_l {ds : List Dt} {x : V} (h : Rep X.K H (.lst ds) x) : ∃ p xs, x = .ref p ∧ SqL X.K H p xs := by
  obtain ⟨p, xs, e, l, _⟩ : ∃ p xs, x = .ref p ∧ SqL X.K H p xs ∧ Reps X.K H ds xs := by simpa only [Rep] using h
  exact ⟨p, xs, e, l⟩
theorem rep_ref_t {ds : List Dt} {x : V} (h : Rep X.K H (.tup ds) x) : ∃ p xs, x = .ref p ∧ SqT X.K H p xs := by
  obtain ⟨p, xs, e, l, _⟩ : ∃ p xs, x = .ref p ∧ SqT X.K H p xs ∧ Reps X.K H ds xs := by simpa only [Rep] using h
  exact ⟨p, xs, e, l⟩
theorem eq3_step (I : Inv X pins σ H s) {n : Nat} {A : Around} (ih : ∀ (d d' : Dt) (x y : V) (u v : Value), depD d < n → Rep X.K H d x → Rep X.K H d' y → RelV x u → RelV y v → Eq3 A.in1 s u v (eqDt d d'))
    {d d' : Dt} {x y : V} {u v : Value} (hu : A.units + n < cLine) (hd : depD d ≤ n) (hx : Rep X.K H d x) (hy : Rep X.K H d' y) (rx : RelV x u) (ry : RelV y v) : Eq3 A s u v (eqDt d d') := by
  have hu0 : A.units < cLine := by omega
  cases d with
  | non =>
    have e : x = V.non := by simpa [Rep] using hx
    subst e
    cases rx
    cases d' with
    | non =>
      have e : y = V.non := by simpa [Rep] using hy
      subst e
      cases ry
      exact ⟨(EqAt.same _), RcAt.none_none , RcNeAt.none_none ⟩
    | bl b =>
      have e : y = V.bl b := by simpa [Rep] using hy
      subst e
      cases ry
      exact ⟨(EqAt.none_bool b), RcAt.none_bool b, RcNeAt.none_bool b⟩
    | int b =>
      have e : y = V.int b := by simpa [Rep] using hy
      subst e
      obtain ⟨u, rfl⟩ := ry
      exact ⟨(EqAt.none_int b u), RcAt.none_int b u, RcNeAt.none_int b u⟩
    | str b =>
      have e : y = V.str b := by simpa [Rep] using hy
      subst e
      obtain ⟨u, rfl⟩ := ry
      exact ⟨(EqAt.none_str b u), RcAt.none_str b u, RcNeAt.none_str b u⟩
    | lst b =>
      obtain ⟨pW, xsW, rfl, lW⟩ := rep_ref_l hy
      cases ry
      obtain ⟨itW, _, plW, _⟩ := I.list lW
      exact ⟨EqAt.none_list  plW.isList hu0, RcAt.none_list  plW.isList hu0, RcNeAt.none_list  plW.isList hu0⟩
    | tup b =>
      obtain ⟨pW, xsW, rfl, lW⟩ := rep_ref_t hy
      cases ry
      obtain ⟨itW, _, plW, _⟩ := I.tuple lW
      exact ⟨EqAt.none_tuple  plW hu0, RcAt.none_tuple  plW hu0, RcNeAt.none_tuple  plW hu0⟩
  | bl a =>
    have e : x = V.bl a := by simpa [Rep] using hx
    subst e
    cases rx
    cases d' with
    | non =>
      have e : y = V.non := by simpa [Rep] using hy
      subst e
      cases ry
      exact ⟨(EqAt.bool_none a), RcAt.bool_none a, RcNeAt.bool_none a⟩
    | bl b =>
      have e : y = V.bl b := by simpa [Rep] using hy
      subst e
      cases ry
      exact ⟨(EqAt.bool_bool a b), RcAt.bool_bool a b, RcNeAt.bool_bool a b⟩
    | int b =>
      have e : y = V.int b := by simpa [Rep] using hy
      subst e
      obtain ⟨u, rfl⟩ := ry
      exact ⟨(EqAt.bool_int a b u), RcAt.bool_int a b u, RcNeAt.bool_int a b u⟩
    | str b =>
      have e : y = V.str b := by simpa [Rep] using hy
      subst e
      obtain ⟨u, rfl⟩ := ry
      exact ⟨(EqAt.bool_str a b u), RcAt.bool_str a b u, RcNeAt.bool_str a b u⟩
    | lst b =>
      obtain ⟨pW, xsW, rfl, lW⟩ := rep_ref_l hy
      cases ry
      obtain ⟨itW, _, plW, _⟩ := I.list lW
      exact ⟨EqAt.bool_list a plW.isList hu0, RcAt.bool_list a plW.isList hu0, RcNeAt.bool_list a plW.isList hu0⟩
    | tup b =>
      obtain ⟨pW, xsW, rfl, lW⟩ := rep_ref_t hy
      cases ry
      obtain ⟨itW, _, plW, _⟩ := I.tuple lW
      exact ⟨EqAt.bool_tuple a plW hu0, RcAt.bool_tuple a plW hu0, RcNeAt.bool_tuple a plW hu0⟩
  | int a =>
    have e : x = V.int a := by simpa [Rep] using hx
    subst e
    obtain ⟨t, rfl⟩ := rx
    cases d' with
    | non =>
      have e : y = V.non := by simpa [Rep] using hy
      subst e
      cases ry
      exact ⟨(EqAt.int_none a t), RcAt.int_none a t, RcNeAt.int_none a t⟩
    | bl b =>
      have e : y = V.bl b := by simpa [Rep] using hy
      subst e
      cases ry
      exact ⟨(EqAt.int_bool a t b), RcAt.int_bool a t b, RcNeAt.int_bool a t b⟩
    | int b =>
      have e : y = V.int b := by simpa [Rep] using hy
      subst e
      obtain ⟨u, rfl⟩ := ry
      exact ⟨(EqAt.int_int a t b u), RcAt.int_int a t b u, RcNeAt.int_int a t b u⟩
    | str b =>
      have e : y = V.str b := by simpa [Rep] using hy
      subst e
      obtain ⟨u, rfl⟩ := ry
      exact ⟨(EqAt.int_str a t b u), RcAt.int_str a t b u, RcNeAt.int_str a t b u⟩
    | lst b =>
      obtain ⟨pW, xsW, rfl, lW⟩ := rep_ref_l hy
      cases ry
      obtain ⟨itW, _, plW, _⟩ := I.list lW
      exact ⟨EqAt.int_list a t plW.isList hu0, RcAt.int_list a t plW.isList hu0, RcNeAt.int_list a t plW.isList hu0⟩
    | tup b =>
      obtain ⟨pW, xsW, rfl, lW⟩ := rep_ref_t hy
      cases ry
      obtain ⟨itW, _, plW, _⟩ := I.tuple lW
      exact ⟨EqAt.int_tuple a t plW hu0, RcAt.int_tuple a t plW hu0, RcNeAt.int_tuple a t plW hu0⟩
  | str a =>
    have e : x = V.str a := by simpa [Rep] using hx
    subst e
    obtain ⟨t, rfl⟩ := rx
    cases d' with
    | non =>
      have e : y = V.non := by simpa [Rep] using hy
      subst e
      cases ry
      exact ⟨(EqAt.str_none a t), RcAt.str_none a t, RcNeAt.str_none a t⟩
    | bl b =>
      have e : y = V.bl b := by simpa [Rep] using hy
      subst e
      cases ry
      exact ⟨(EqAt.str_bool a t b), RcAt.str_bool a t b, RcNeAt.str_bool a t b⟩
    | int b =>
      have e : y = V.int b := by simpa [Rep] using hy
      subst e
      obtain ⟨u, rfl⟩ := ry
      exact ⟨(EqAt.str_int a t b u), RcAt.str_int a t b u, RcNeAt.str_int a t b u⟩
    | str b =>
      have e : y = V.str b := by simpa [Rep] using hy
      subst e
      obtain ⟨u, rfl⟩ := ry
      exact ⟨(EqAt.str_str a t b u), RcAt.str_str a t b u, RcNeAt.str_str a t b u⟩
    | lst b =>
      obtain ⟨pW, xsW, rfl, lW⟩ := rep_ref_l hy
      cases ry
      obtain ⟨itW, _, plW, _⟩ := I.list lW
      exact ⟨EqAt.str_list a t plW.isList hu0, RcAt.str_list a t plW.isList hu0, RcNeAt.str_list a t plW.isList hu0⟩
    | tup b =>
      obtain ⟨pW, xsW, rfl, lW⟩ := rep_ref_t hy
      cases ry
      obtain ⟨itW, _, plW, _⟩ := I.tuple lW
      exact ⟨EqAt.str_tuple a t plW hu0, RcAt.str_tuple a t plW hu0, RcNeAt.str_tuple a t plW hu0⟩
  | lst a =>
    obtain ⟨pU, xsU, rfl, lU⟩ := rep_ref_l hx
    cases rx
    obtain ⟨itU, _, plU, _⟩ := I.list lU
    cases d' with
    | non =>
      have e : y = V.non := by simpa [Rep] using hy
      subst e
      cases ry
      exact ⟨EqAt.list_none  plU.isList hu0, RcAt.list_none  plU.isList hu0, RcNeAt.list_none  plU.isList hu0⟩
    | bl b =>
      have e : y = V.bl b := by simpa [Rep] using hy
      subst e
      cases ry
      exact ⟨EqAt.list_bool b plU.isList hu0, RcAt.list_bool b plU.isList hu0, RcNeAt.list_bool b plU.isList hu0⟩
    | int b =>
      have e : y = V.int b := by simpa [Rep] using hy
      subst e
      obtain ⟨u, rfl⟩ := ry
      exact ⟨EqAt.list_int b u plU.isList hu0, RcAt.list_int b u plU.isList hu0, RcNeAt.list_int b u plU.isList hu0⟩
    | str b =>
      have e : y = V.str b := by simpa [Rep] using hy
      subst e
      obtain ⟨u, rfl⟩ := ry
      exact ⟨EqAt.list_str b u plU.isList hu0, RcAt.list_str b u plU.isList hu0, RcNeAt.list_str b u plU.isList hu0⟩
    | lst b =>
      obtain ⟨pW, xsW, rfl, lW⟩ := rep_ref_l hy
      cases ry
      obtain ⟨itW, _, plW, _⟩ := I.list lW
      have hd : depDs a + 1 ≤ n := by simpa only [depD] using hd
      exact eq3_lists I (n := n - 1) hu0 (fun d d' x y u v h => ih d d' x y u v (by omega)) (by omega) hx hy
    | tup b =>
      obtain ⟨pW, xsW, rfl, lW⟩ := rep_ref_t hy
      cases ry
      obtain ⟨itW, _, plW, _⟩ := I.tuple lW
      exact ⟨EqAt.list_tuple plU.isList plW hu0, RcAt.list_tuple plU.isList plW hu0, RcNeAt.list_tuple plU.isList plW hu0⟩
  | tup a =>
    obtain ⟨pU, xsU, rfl, lU⟩ := rep_ref_t hx
    cases rx
    obtain ⟨itU, _, plU, _⟩ := I.tuple lU
    cases d' with
    | non =>
      have e : y = V.non := by simpa [Rep] using hy
      subst e
      cases ry
      exact ⟨EqAt.tuple_none  plU hu0, RcAt.tuple_none  plU hu0, RcNeAt.tuple_none  plU hu0⟩
    | bl b =>
      have e : y = V.bl b := by simpa [Rep] using hy
      subst e
      cases ry
      exact ⟨EqAt.tuple_bool b plU hu0, RcAt.tuple_bool b plU hu0, RcNeAt.tuple_bool b plU hu0⟩
    | int b =>
      have e : y = V.int b := by simpa [Rep] using hy
      subst e
      obtain ⟨u, rfl⟩ := ry
      exact ⟨EqAt.tuple_int b u plU hu0, RcAt.tuple_int b u plU hu0, RcNeAt.tuple_int b u plU hu0⟩
    | str b =>
      have e : y = V.str b := by simpa [Rep] using hy
      subst e
      obtain ⟨u, rfl⟩ := ry
      exact ⟨EqAt.tuple_str b u plU hu0, RcAt.tuple_str b u plU hu0, RcNeAt.tuple_str b u plU hu0⟩
    | lst b =>
      obtain ⟨pW, xsW, rfl, lW⟩ := rep_ref_l hy
      cases ry
      obtain ⟨itW, _, plW, _⟩ := I.list lW
      exact ⟨EqAt.tuple_list plU plW.isList hu0, RcAt.tuple_list plU plW.isList hu0, RcNeAt.tuple_list plU plW.isList hu0⟩
    | tup b =>
      obtain ⟨pW, xsW, rfl, lW⟩ := rep_ref_t hy
      cases ry
      obtain ⟨itW, _, plW, _⟩ := I.tuple lW
      have hd : depDs a + 1 ≤ n := by simpa only [depD] using hd
      exact eq3_tups I (n := n - 1) hu0 (fun d d' x y u v h => ih d d' x y u v (by omega)) (by omega) hx hy
end
section
variable {X : Cx} {pins : List (Addr × Obj)} {σ : St} {H : Hp} {s : Shared}
theorem eq3 (I : Inv X pins σ H s) : ∀ (n : Nat) (A : Around) (d d' : Dt) (x y : V) (u v : Value), A.units + n < cLine → depD d ≤ n → Rep X.K H d x → Rep X.K H d' y → RelV x u → RelV y v → Eq3 A s u v (eqDt d d') := by
  intro n
  induction n with
  | zero => exact fun A d d' x y u v hu hd hx hy rx ry => eq3_step I (n := 0) (fun _ _ _ _ _ _ h => absurd h (Nat.not_lt_zero _)) hu hd hx hy rx ry
  | succ n ih => exact fun A d d' x y u v hu hd hx hy rx ry => eq3_step I (n := n + 1) (fun d d' x y u v h hx hy rx ry => ih A.in1 d d' x y u v (by show A.units + 1 + n < cLine; omega) (Nat.le_of_lt_succ h) hx hy rx ry) hu hd hx hy rx ry
end
section
variable {X : Cx}
theorem op_eq_d {k : Nat} (hr : Room k X.A) : OpR X (compareOp .Eq) (fun x y H Q => ∃ d d', Rep X.K H d x ∧ Rep X.K H d' y ∧ depD d ≤ 100 ∧ Q (.bl (eqDt d d')) H) := by
  intro pins s σ H x y v u Q I rx ry h
  obtain ⟨d, d', h1, h2, hd, q⟩ := h
  exact (eq3 I 100 X.A d d' x y v u (by have := hr.un; omega) hd h1 h2 rx ry).rc X.prog X.w X.xe _ ⟨.bl _, H, I, rfl, q⟩
theorem op_ne_d {k : Nat} (hr : Room k X.A) : OpR X (compareOp .NotEq) (fun x y H Q => ∃ d d', Rep X.K H d x ∧ Rep X.K H d' y ∧ depD d ≤ 100 ∧ Q (.bl (!eqDt d d')) H) := by
  intro pins s σ H x y v u Q I rx ry h
  obtain ⟨d, d', h1, h2, hd, q⟩ := h
  exact (eq3 I 100 X.A d d' x y v u (by have := hr.un; omega) hd h1 h2 rx ry).ne X.prog X.w X.xe _ ⟨.bl _, H, I, rfl, q⟩
end
end L2
namespace L2
open PySem PySem.Spec PyProof.Rows
def isW : V → Bool
  | .int _ => true
  | _ => false
def isIB : V → Bool
  | .int _ => true
  | .bl _ => true
  | _ => false
def isB : V → Bool
  | .bl _ => true
  | _ => false
theorem isW_eq (x : V) : isW x = (isIB x && !isB x) := by cases x <;> rfl
section
variable {K : PySem.W.Frag} {H H' : Hp} {x : V} {n : String}
theorem bt_int (h : TyOf K H x (.type n)) : clsIs K (.type n) (.ty "int") = some (isIB x) := by cases h <;> rfl
theorem bt_bool (h : TyOf K H x (.type n)) : clsIs K (.type n) (.ty "bool") = some (isB x) := by cases h <;> rfl
theorem bt_list (h : TyOf K H x (.type n)) : clsIs K (.type n) (.ty "list") = some (n == "list") := by cases h <;> rfl
theorem bt_tuple (h : TyOf K H x (.type n)) : clsIs K (.type n) (.ty "tuple") = some (n == "tuple") := by cases h <;> rfl
theorem TyOf.same {t : Value} (e : Same H H') (h : TyOf K H x t) : TyOf K H' x t := by
  cases h with
  | non => exact .non
  | bl b => exact .bl b
  | int i => exact .int i
  | str y => exact .str y
  | flt y => exact .flt y
  | lst q => exact .lst (e _ _ q)
  | frz q => exact .frz (e _ _ q)
  | tup q => exact .tup (e _ _ q)
  | dK q => exact .dK (e _ _ q)
  | dT q => exact .dT (e _ _ q)
  | ins q c a b d m => exact .ins (e _ _ q) c a b d m
end
theorem atI_0 {α : Type} {c : α} {cs : List α} : atI (c :: cs) (0 : Int) = some c := atI_nat (j := 0) rfl
theorem atI_lt {α : Type} {xs : List α} {i : Int} (h0 : 0 ≤ i) (h1 : i < xs.length) : ∃ v, atI xs i = some v ∧ v ∈ xs := by
  obtain ⟨j, rfl⟩ : ∃ j : Nat, i = (j : Int) := ⟨i.toNat, by omega⟩
  have hj : j < xs.length := by omega
  exact ⟨xs[j], atI_nat (by simp [hj]), List.getElem_mem hj⟩
theorem Same.new {H : Hp} {p : Addr} {o : HO} (h : H p = none) : Same H (upd H p o) := fun b u e => by
  rw [upd_ne (ne_of_none e h)]
  exact e
theorem Same.tup {K : PySem.W.Frag} {H H' : Hp} {a : Addr} {xs : List V} (e : Same H H') (h : SqT K H a xs) : SqT K H' a xs := by
  rcases h with (h | ⟨o, h⟩) | h
  · exact .inl (.inl (e _ _ h))
  · exact .inl (.inr ⟨o, e _ _ h⟩)
  · exact .inr h
def Off (p : Addr) (H H' : Hp) : Prop := ∀ b, b ≠ p → H' b = H b
theorem Off.trans {p : Addr} {H H1 H2 : Hp} (a : Off p H H1) (b : Off p H1 H2) : Off p H H2 := fun c h => (b c h).trans (a c h)
theorem Off.upd {p : Addr} {H : Hp} {o : HO} : Off p H (upd H p o) := fun _ h => upd_ne h
theorem Off.seq {K : PySem.W.Frag} {p a : Addr} {H H' : Hp} {xs : List V} (e : Off p H H') (ne : a ≠ p) (h : SqL K H a xs) : SqL K H' a xs := by
  rcases h with (h | ⟨o, h⟩) | h
  · exact .inl (.inl (by rw [e a ne]; exact h))
  · exact .inl (.inr ⟨o, by rw [e a ne]; exact h⟩)
  · exact .inr h
theorem small_line {n : Nat} (h : n ≤ 1000000) : n ≤ sizeLine := Nat.le_trans h (by decide)
theorem fnok_of {P : Program} {w : World} {K : PySem.W.Frag} {mg : Str → Option Value} {base : Heap} {CX : CXT} {x : Str} {ps : List Str} {sp : Sp} {k : Nat} {st : Stmt} {N : List Str} {f : Addr} {fd : FuncData}
    (F : Fun K x x st f fd) (S : FnScope N ps (defScope st)) (len : ∀ vs H Q E, sp vs H Q E → vs.length = ps.length)
    (hbody : ∀ (cdv : Value) (A : Around) (outer : List Env) (s : Shared) (H : Hp) (vs : List V) (Q : VK) (E : XK), Room k (A.deeper (envOfC x (defScope st) s.heap.objs.size f cdv)) → sp vs H Q E →
      ∃ t, PSs (cxOf CX P w K mg base N x (defScope st) f cdv A outer s H E).nox (defBody st) t ∧ t { nx := fun _ H' => Q .non H', rt := Q } (start N vs) H) : FnOk P w K mg base CX (k + 1) f fd ps sp := by
  obtain ⟨oc, od, kV, doc, pm, an, cdv, ct, osl, rfl, lk, hcd⟩ := F.ex
  refine fn_of lk hcd S len fun A outer s H vs Q E hr hsp => ?_
  obtain ⟨t, h, q⟩ := hbody cdv A outer s H vs Q E hr hsp
  exact ⟨t, h.nox, q⟩
structure ExcF (B newId initId : String) (bm : List Value) : Prop where
  call : ExcCallFacts B newId initId
  split : splitId newId = some (B, "__new__")
  kind : builtinKind newId = some .builtinFn
  row : Manifest.signature? newId = some ⟨.any, B, B, .cls, [⟨"args", .varPos, false⟩, ⟨"kwargs", .varKw, false⟩]⟩
  hasB : bm.contains (.type B) = true
  hasE : bm.contains (.type "BaseException") = true
  noA : bm.contains (.type "AttributeError") = false
  noN : bm.contains (.type "NameError") = false
  canon : Manifest.canonical newId = Manifest.canonical "BaseException.__new__"
theorem excF_ValueError : ExcF "ValueError" "ValueError.__new__" "ValueError.__init__" [.type "ValueError", .type "Exception", .type "BaseException", .type "object"] :=
  ⟨PySem.F.excBase_ValueError.toExcCallFacts, PySem.F.excBase_ValueError.newSplit, PySem.F.excBase_ValueError.newKind, PySem.F.excBase_ValueError.newRow, PySem.F.excBase_ValueError.hasB, PySem.F.excBase_ValueError.hasBase, PySem.F.excBase_ValueError.noAttr, PySem.F.excBase_ValueError.noName, PySem.F.excBase_ValueError.canon⟩
theorem ExcF.under {B newId initId : String} {bm : List Value} (F : ExcF B newId initId bm) (R : Addr) : ExcF B newId initId (.ref R :: bm) :=
  ⟨F.call, F.split, F.kind, F.row, by rw [List.contains_cons, F.hasB, Bool.or_true], by rw [List.contains_cons, F.hasE, Bool.or_true], by rw [List.contains_cons, F.noA]; rfl, by rw [List.contains_cons, F.noN]; rfl, F.canon⟩
section
variable {prog : Program} {w : World} {M : Model} {A : Around} {E : Value → Shared → Prop} {R : Result → Shared → Prop} {h : Heap} {g : Array GenState} {d : Drawn} {t : Nat} {os : OsState}
variable {nm q : Str} {C N : Addr} {bs bm : List Value} {hdct : Bool} {sn : List Str} {sub : List Value} {ab : Bool} {col : Option Bool} {dd : Option Addr} {k0 k1 k2 k3 k5 : Option Value} {B newId initId : String}
theorem ExcF.has (F : ExcF B newId initId bm) : (Value.ref C :: bm).contains (.type B) = true := by rw [List.contains_cons, F.hasB, Bool.or_true]
theorem exc_check_new (F : ExcF B newId initId bm) {rest : List Value} {Q : Unit → Shared → Prop} (hC : h.get? C = some (excClassObj nm q C N bs bm hdct sn sub ab col dd k0 k1 k2 k3 k5 newId)) (hq : Q () ⟨h, g, d, t, os⟩) :
    wpAny M A (checkBuiltinCall newId ⟨.ref C :: rest, []⟩) Q E ⟨h, g, d, t, os⟩ := by
  have e1 : (Value.ref C :: bm).contains (.type B) = true := F.has
  have e2 := F.call.noStar
  simp only [checkBuiltinCall, F.kind, F.split, F.row]
  repeat (first | refine wpAny_loadPart_at hC ?_ | (refine wpAny_isSubtype_exc hC ?_; rw [e1]) | refine wpAny_staticBase_exc hC ?_ | refine wpAny_madeBy_exc hC ?_ | simp only [bne_self_eq_false, Bool.false_eq_true, if_false] | wp_step)
  exact hq
theorem exc_new (F : ExcF B newId initId bm) {rest : List Value} (hC : h.get? C = some (excClassObj nm q C N bs bm hdct sn sub ab col dd k0 k1 k2 k3 k5 newId))
    (hq : R (.ok (.ret (.ref (h.objs.size + 1)))) ⟨(h.push { cls := .type "tuple", data := .seq rest.toArray }).push { cls := .ref C, data := .fields #[.ref h.objs.size, .none, .none, .none, .bool false, .none] }, g, d, t, os⟩) (hz : rest.length ≤ sizeLine) :
    codeAny (model prog w) A (.builtin newId ⟨.ref C :: rest, []⟩) R ⟨h, g, d, t, os⟩ := by
  have e0 := F.call.ends
  have e1 : (Value.ref C :: bm).contains (.type B) = true := F.has
  have e2 : (Value.ref C :: bm).contains (.type "AttributeError") = false := by rw [List.contains_cons, F.noA]; rfl
  have e3 : (Value.ref C :: bm).contains (.type "NameError") = false := by rw [List.contains_cons, F.noN]; rfl
  refine codeAny_builtinAt F.call.entry ?_
  unfold Builtin.«BaseException.__new__»; refine PySem.wpAt_bind ?_
  show PySem.wpAt _ _ _ (stack >>= _) _ _ _; refine PySem.wpAt_bind (PySem.wpAt_stack fun p below => PySem.wpAt_of_wpAny ?_)
  wp_walk; refine PySem.wpAt_of_wpAny ?_
  rw [F.call.owner]
  repeat (first | with_reducible refine wpAny_madeHere_exc F.canon hC ?_ | with_reducible refine wpAny_loadPart_at hC ?_ | (with_reducible refine wpAny_isSubtype_exc hC ?_; first | rw [e1] | rw [e2] | rw [e3]) | wp_step)
  show R _ _; rw [Heap.size_push]; exact hq
theorem exc_make (F : ExcF B newId initId bm) {rest : List Value} {fI : Addr} {oI : Obj} {Q : Value → Shared → Prop} (hC : h.get? C = some (excClassObj nm q C N bs bm hdct sn sub ab col dd k0 k1 k2 k3 k5 newId))
    (hi : PySem.W.Looks (model prog w) h (typeLookup (.ref C) "__init__") (some (.ref fI))) (hfI : h.get? fI = some oI) (hfc : oI.cls = .type "function")
    (hq : ∀ h', (∀ b o, h.get? b = some o → h'.get? b = some o) → h'.get? (h.objs.size + 1) = some { cls := .ref C, data := .fields #[.ref h.objs.size, .none, .none, .none, .bool false, .none] } → wpAny (model prog w) (A.under (.builtin "type.__call__" ⟨.ref C :: rest, []⟩)) (PySem.call (.ref fI) (.ref (h.objs.size + 1) :: rest)) (fun r s' => r = .none ∧ Q (.ref (h.objs.size + 1)) s') E ⟨h', g, d, t, os⟩) (hz : rest.length ≤ sizeLine) :
    wpAny (model prog w) A (PySem.call (.ref C) rest) Q E ⟨h, g, d, t, os⟩ := by
  have f1 := tc_lookup
  have f2 := tc_bind (.ref C)
  have hT : (⟨h, g, d, t, os⟩ : Shared).TypeIs (.ref C) "type" := ⟨_, hC, rfl⟩
  refine wpAny_call (codeAny_of_tree ?_)
  show wpAny _ _ (callAny (.ref C) _) _ _ _
  repeat (any_goals (first | assumption | with_reducible refine wpAny_loadPart_at hC ?_ | wp_step))
  refine ⟨rfl, codeAny_call_builtin_at (Code.quiet_builtin _ (by decide +kernel)) entry_typeCall (wpAny_check_type_call_sub hC ?_)⟩
  repeat (first | with_reducible refine wpAny_loadPart_at hC ?_ | with_reducible refine wpAny_madeBy_exc hC ?_ | wp_step)
  refine codeAny_call_builtin_code (Code.quiet_builtin _ F.call.quiet) (exc_check_new F hC (exc_new F hC ?_ hz))
  show wpAny _ _ _ _ _ (⟨(h.push { cls := .type "tuple", data := .seq rest.toArray }).push { cls := .ref C, data := .fields #[.ref h.objs.size, .none, .none, .none, .bool false, .none] }, g, d, t, os⟩ : Shared)
  generalize hh2 : (h.push { cls := .type "tuple", data := .seq rest.toArray }).push { cls := .ref C, data := .fields #[.ref h.objs.size, .none, .none, .none, .bool false, .none] } = h2
  have kp : ∀ b o, h.get? b = some o → h2.get? b = some o := fun b o e => by rw [← hh2]; exact Heap.get?_push_of_some _ (Heap.get?_push_of_some _ e)
  have hget : h2.get? (h.objs.size + 1) = some { cls := .ref C, data := .fields #[.ref h.objs.size, .none, .none, .none, .bool false, .none] } := by rw [← hh2]; heap_get
  have htup : h2.get? h.objs.size = some { cls := .type "tuple", data := .seq rest.toArray } := by rw [← hh2]; exact Heap.get?_push_of_some _ (Heap.get?_push_at rfl rfl)
  have hcC : (Value.ref C :: bm).contains (.ref C) = true := by simp
  unfold isInstance
  repeat (first | with_reducible refine wpAny_loadPart_at hget ?_ | (with_reducible refine wpAny_isSubtype_exc (kp _ _ hC) ?_; rw [hcC]) | wp_step)
  show wpAny _ _ (typeLookup (.ref C) _) _ _ _
  refine hi _ _ _ _ kp ?_
  refine wpAny_holding (wpAny_bind ?_)
  unfold bindSpecial; refine wpAny_bind (wpAny_typeOf (T := "function") ⟨_, kp _ _ hfI, hfc⟩ ?_)
  rw [if_pos (by decide)]
  refine wpAny_pure (wpAny_bind (wpAny_mono (hq h2 kp hget) (fun r s' hr => ?_) fun _ _ x => x))
  obtain ⟨rfl, hQ⟩ := hr
  wp_walk
  exact hQ
end
section
variable {prog : Program} {w : World} {A : Around} {E : Value → Shared → Prop} {s : Shared} {K : PySem.W.Frag} {e C : Addr} {oe : Obj} {vs : Array Value} {name : Str} {v : Value}
theorem exc_notCls (hf : oe.data = .fields vs) : PySem.W.notCls oe = true := by
  unfold PySem.W.notCls
  rw [hf]
def exOnly : List Value → Bool
  | .ref _ :: r => exOnly r
  | l => l == [.type "ValueError", .type "Exception", .type "BaseException", .type "object"]
theorem refuse_ve (self : Value) : refuseLoop self "__setattr__" [.type "ValueError", .type "Exception", .type "BaseException", .type "object"] = pure () := by kernel_rfl
theorem refuse_ex (self : Value) : ∀ {l : List Value}, exOnly l = true → refuseLoop self "__setattr__" l = pure ()
  | .ref c :: r, h => by
    rw [refuseLoop_ref]
    exact refuse_ex self h
  | [], h => by cases h
  | .type n :: r, h => by
    have z : (Value.type n :: r) = [.type "ValueError", .type "Exception", .type "BaseException", .type "object"] := eq_of_beq h
    rw [z]
    exact refuse_ve self
  | .none :: r, h => by cases (eq_of_beq h : (Value.none :: r) = _)
  | .bool _ :: r, h => by cases (eq_of_beq h : (_ :: r) = _)
  | .int _ _ :: r, h => by cases (eq_of_beq h : (_ :: r) = _)
  | .str _ _ :: r, h => by cases (eq_of_beq h : (_ :: r) = _)
  | .bytes _ _ :: r, h => by cases (eq_of_beq h : (_ :: r) = _)
  | .float _ _ :: r, h => by cases (eq_of_beq h : (_ :: r) = _)
  | .builtin _ :: r, h => by cases (eq_of_beq h : (_ :: r) = _)
  | .ellipsis :: r, h => by cases (eq_of_beq h : (_ :: r) = _)
  | .notImplemented :: r, h => by cases (eq_of_beq h : (_ :: r) = _)
theorem exOnly_has : ∀ {l : List Value}, exOnly l = true → l.contains (.type "object") = true ∧ l.isEmpty = false
  | .ref c :: r, h => ⟨by rw [List.contains_cons, (exOnly_has (l := r) h).1, Bool.or_true], rfl⟩
  | [], h => by cases h
  | .type n :: r, h => by
    have z : (Value.type n :: r) = [.type "ValueError", .type "Exception", .type "BaseException", .type "object"] := eq_of_beq h
    rw [z]
    exact ⟨by decide, rfl⟩
  | .none :: r, h => by cases (eq_of_beq h : (Value.none :: r) = _)
  | .bool _ :: r, h => by cases (eq_of_beq h : (_ :: r) = _)
  | .int _ _ :: r, h => by cases (eq_of_beq h : (_ :: r) = _)
  | .str _ _ :: r, h => by cases (eq_of_beq h : (_ :: r) = _)
  | .bytes _ _ :: r, h => by cases (eq_of_beq h : (_ :: r) = _)
  | .float _ _ :: r, h => by cases (eq_of_beq h : (_ :: r) = _)
  | .builtin _ :: r, h => by cases (eq_of_beq h : (_ :: r) = _)
  | .ellipsis :: r, h => by cases (eq_of_beq h : (_ :: r) = _)
  | .notImplemented :: r, h => by cases (eq_of_beq h : (_ :: r) = _)
def excOver (K : PySem.W.Frag) (C : Addr) : Bool := (PySem.W.clsIn K C).any fun cd => exOnly cd.mro
theorem osa_exc {ox : Obj} {od : Option Obj} {tk : Tok} {R : Result → Shared → Prop} (X : K.In s.heap) (I : PySem.W.InstAt s.heap e ox C od) (hp : excOver K C = true) (ht : PySem.W.takerIn K C name = some none)
    (h : ∀ b, wpAny (model prog w) A.in1 (Builtin.ObjectAttr.storeInOwnDict (.ref e) (.ref C) (.str name tk) name v b)
      (fun fin s' => match fin with | .done f => R (.ok f) s' | .again c' => c'.quiet = true ∧ codeAny (model prog w) A c' R s') (fun x s' => R (.error x) s') s) :
    codeAny (model prog w) A (.call (.builtin "object.__setattr__") ⟨[.ref e, .str name tk, v], []⟩) R s := by
  have SF := PySem.F.store_object
  obtain ⟨cd, hc, ho⟩ := PySem.W.any_some hp
  obtain ⟨hasO, ne⟩ := exOnly_has ho
  have sub : PySem.W.Looks (model prog w) s.heap (isInstance (.ref e) (.type "object")) true := I.type.andThen (PySem.W.looks_mroIn X (by unfold PySem.W.mroIn; rw [hc, Option.bind_some, if_neg (by rw [ne]; decide), hasO]))
  refine codeAny_call_builtin SF.slot.plain SF.entry (@PySem.W.check_slot (model prog w) _ _ s "object.__setattr__" "object" "__setattr__" (.ref e) [.str name tk, v] [] _ SF.kind SF.split sub (SF.args (.ref e) (.str name tk) v) ?_)
  obtain ⟨attr, ha, hr⟩ := Option.bind_eq_some_iff.mp ht
  have hm : PySem.W.Looks (model prog w) s.heap (mroOf (.ref C)) cd.mro := (PySem.W.looks_clsIn X hc).andThen .now
  have L3 : PySem.W.Looks (model prog w) s.heap (Builtin.ObjectAttr.storeTaker? attr) none := by
    cases attr with
    | none => exact .now
    | some a =>
      obtain ⟨b, hb, q⟩ := Option.map_eq_some_iff.mp hr
      refine (PySem.W.looks_takesIn X hb).andThen ?_
      cases b with
      | true => cases q
      | false => exact .now
  rw [PySem.W.osa_eq, refuse_eq]
  refine wpAny_bind (wpAny_bind (I.type.here (wpAny_bind (hm.here ?_))))
  rw [refuse_ex _ ho]
  refine wpAny_pure (wpAny_bind (I.type.here (wpAny_bind ((PySem.W.looks_findIn X ha).here (wpAny_bind (L3.here ?_))))))
  exact h _
theorem exc_set0 {Q : Unit → Shared → Prop} (X : K.In s.heap) (he : s.heap.get? e = some oe) (hc : oe.cls = .ref C) (hd : oe.dict = none) (hf : oe.data = .fields vs)
    (hs : PySem.W.findIn K (.ref C) "__setattr__" = some (some (.builtin "object.__setattr__"))) (hp : excOver K C = true) (ht : PySem.W.takerIn K C name = some none) (hh : PySem.W.hasDictIn K C = true)
    (h : ∀ h', (∀ b o, b ≠ e → s.heap.get? b = some o → h'.get? b = some o) → h'.get? e = some { oe with dict := some s.heap.objs.size } → h'.Ns1 s.heap.objs.size (fun y => if y = name then some v else none) → Q () { s with heap := h', toks := s.toks + 2 }) :
    wpAny (model prog w) A (setAttr (.ref e) name v) Q E s := by
  have J : PySem.W.InstAt s.heap e oe C none := ⟨he, hc, exc_notCls hf, by rw [hd]; trivial⟩
  refine PySem.W.set_plain X J hs (osa_exc (s := { s with toks := s.toks + 1 }) X J hp ht fun b => ?_)
  obtain ⟨cd, hcd, hdd⟩ := PySem.W.any_some hh
  obtain ⟨oc, od, odt, osl⟩ := oe
  simp only at hc hd hf
  subst hc hd hf
  refine wpAny_bind (wpAny_pure (wpAny_bind (wpAny_bind (wpAny_loadPart he (wpAny_bind (PySem.W.Looks.here (s := { s with toks := s.toks + 1 }) (PySem.W.looks_clsIn X hcd) ?_))))))
  rw [hdd]
  show wpAny (model prog w) A.in1 (alloc { cls := .type "dict", data := .dict #[] } >>= fun d => (update e fun o => { o with dict := some d }) >>= fun _ => dictMade (.ref C) e d) _ _ _
  have hlt : e < s.heap.objs.size := Heap.lt_size he
  have hne : e ≠ s.heap.objs.size := Nat.ne_of_lt hlt
  refine wpAny_bind (wpAny_alloc (wpAny_bind (wpAny_update (Heap.get?_push_of_some _ he) ?_)))
  show wpAny (model prog w) A.in1 (pure (some s.heap.objs.size)) _ _ _
  refine wpAny_pure (wpAny_bind (wpAny_pure (wpAny_bind ?_)))
  have e0 : ((s.heap.push { cls := .type "dict", data := .dict #[] }).update e fun o => { o with dict := some s.heap.objs.size }).get? s.heap.objs.size = some { cls := .type "dict", data := .dict #[] } :=
    (Heap.get?_update_other _ _ hne).trans (Heap.get?_push_size s.heap rfl)
  have e1 : ((s.heap.push { cls := .type "dict", data := .dict #[] }).update e fun o => { o with dict := some s.heap.objs.size }).get? e = some { cls := .ref C, dict := some s.heap.objs.size, data := .fields vs, slots := osl } :=
    Heap.get?_update_self _ (Heap.get?_push_of_some _ he) rfl
  have n0 : ((s.heap.push { cls := .type "dict", data := .dict #[] }).update e fun o => { o with dict := some s.heap.objs.size }).Ns s.heap.objs.size (fun _ => none) :=
    ⟨_, #[], _, e0, rfl, (fun y hy => absurd hy (by simp)), fun _ => rfl⟩
  refine wpAny_nsSet1 (Heap.Ns1.of_empty n0) fun h' hn2 hs2 => ?_
  obtain ⟨oD, esD, epD, hoD, hdD, hcD⟩ := hn2.count (PySem.Within.cons (ns := []) name v (fun y hy => absurd rfl hy))
  refine wpAny_bind (wpAny_lookBehind hoD (by rw [hdD]; exact pastItsLine_dict (Nat.le_trans hcD (by show 1 ≤ _; decide))) ?_)
  refine wpAny_pure (h h' (fun b o hb q => ?_) ((hs2.2 _ hne).trans e1) hn2)
  rw [hs2.2 b (Nat.ne_of_lt (Heap.lt_size q))]
  exact (Heap.get?_update_other _ _ (Ne.symm hb)).trans (Heap.get?_push_of_some _ q)
theorem exc_set1 {dx : Addr} {mA : Str → Option Value} {ns : List Str} {Q : Unit → Shared → Prop} (X : K.In s.heap) (he : s.heap.get? e = some oe) (hc : oe.cls = .ref C) (hd : oe.dict = some dx) (hf : oe.data = .fields vs) (hn : s.heap.Ns1 dx mA) (hne : dx ≠ e)
    (hs : PySem.W.findIn K (.ref C) "__setattr__" = some (some (.builtin "object.__setattr__"))) (hp : excOver K C = true) (ht : PySem.W.takerIn K C name = some none) (hh : PySem.W.hasDictIn K C = true) (hw : PySem.Within mA ns) (hsz : ns.length ≤ 1000)
    (h : ∀ h', Heap.SameBut dx s.heap h' → h'.Ns1 dx (fun y => if y = name then some v else mA y) → Q () { s with heap := h', toks := s.toks + 2 }) :
    wpAny (model prog w) A (setAttr (.ref e) name v) Q E s := by
  obtain ⟨od, ho, _⟩ := lookIn_ns hn
  have J : PySem.W.InstAt s.heap e oe C (some od) := ⟨he, hc, exc_notCls hf, by rw [hd]; exact ho⟩
  refine PySem.W.set_plain X J hs (osa_exc (s := { s with toks := s.toks + 1 }) X J hp ht fun b => ?_)
  obtain ⟨cd, hcd, hdd⟩ := PySem.W.any_some hh
  obtain ⟨oc, od', odt, osl⟩ := oe
  simp only at hc hd hf
  subst hc hd hf
  refine wpAny_bind (wpAny_pure (wpAny_bind (wpAny_bind (wpAny_loadPart he (wpAny_bind (PySem.W.Looks.here (s := { s with toks := s.toks + 1 }) (PySem.W.looks_clsIn X hcd) ?_))))))
  rw [hdd]
  refine wpAny_pure (a := some dx) (wpAny_bind (wpAny_pure (wpAny_bind (wpAny_nsSet1 (s := { s with toks := s.toks + 1 }) hn fun h' hn2 hs2 => ?_))))
  obtain ⟨oD, esD, epD, hoD, hdD, hcD⟩ := hn2.count (PySem.Within.cons name v hw)
  refine wpAny_bind (wpAny_lookBehind hoD (by rw [hdD]; exact pastItsLine_dict (Nat.le_trans hcD (by rw [List.length_cons]; have := sizeLine_eq; omega))) ?_)
  exact wpAny_pure (h h' hs2 hn2)
theorem exc_get {dx : Addr} {mA : Str → Option Value} {expr : Bool} {Q : Value → Shared → Prop} (X : K.In s.heap) (he : s.heap.get? e = some oe) (hc : oe.cls = .ref C) (hd : oe.dict = some dx) (hf : oe.data = .fields vs) (hn : s.heap.Ns1 dx mA)
    (hga : PySem.W.findIn K (.ref C) "__getattribute__" = some (some (.builtin "BaseException.__getattribute__"))) (hgb : PySem.W.findIn K (.ref C) "__getattr__" = some none) (hmb : PySem.W.mroIn K C (.type "BaseException") = some true)
    (hh : PySem.W.hasDictIn K C = true) (ha : PySem.W.findIn K (.ref C) name = some none) (hv : mA name = some v) (hv' : PySem.W.handedIn v = true) (h : Q v { s with toks := s.toks + 1 }) :
    wpAny (model prog w) A (getAttr (.ref e) name expr) Q E s := by
  obtain ⟨od, ho, hl⟩ := lookIn_ns hn
  have J : PySem.W.InstAt s.heap e oe C (some od) := ⟨he, hc, exc_notCls hf, by rw [hd]; exact ho⟩
  have hfo : PySem.W.findObj K C (some od) name = some (.value v) := PySem.W.findObj_own hh ha rfl (by rw [hl, hv])
  obtain ⟨hp, g, d, t, os⟩ := s
  have L0 := J.type (M := model prog w)
  have L1 := PySem.W.looks_findIn (M := model prog w) X hga
  have L2 := PySem.W.looks_find (M := model prog w) X J hfo
  have L3 := PySem.W.looks_findIn (M := model prog w) X hgb
  have hx0 : (expr && onTheHeap (Value.builtin "BaseException.__getattribute__")) = false := by cases expr <;> rfl
  have sub : PySem.W.Looks (model prog w) hp (isInstance (.ref e) (.type "BaseException")) true := J.type.andThen (PySem.W.looks_mroIn X hmb)
  unfold getAttr getAttrBy
  refine wpAny_bind (wpAny_mkText (wpAny_holding (wpAny_bind (L0.at (wpAny_bind (L1.at ?_))))))
  show wpAny _ _ (getAttrByItsOwn (.ref e) (.str name t) (.ref C) (.builtin "BaseException.__getattribute__") true expr) _ _ _
  unfold getAttrByItsOwn
  refine wpAny_bind (show wpAny _ _ (typeLookup (.ref C) "__getattr__") _ _ _ from L3.at ?_)
  refine wpAny_bind (wpAny_attempt (wpAny_holding ?_))
  unfold callGetattribute
  rw [hx0, if_neg Bool.false_ne_true]
  unfold boundAndCalled
  rw [PySem.F.excAttr_ValueError.ga.bind (.ref e)]
  refine wpAny_bind (wpAny_pure (wpAny_call (codeAny_call_builtin PySem.F.excAttr_ValueError.ga.plain PySem.F.entry_bexc_ga (@PySem.W.check_slot (model prog w) _ _ _ "BaseException.__getattribute__" "BaseException" "__getattribute__" (.ref e) [.str name t] [] _ (by decide +kernel) (by decide +kernel) sub (PySem.F.args_bexc_ga _ _) ?_))))
  refine wpAny_bind (wpAny_pure (wpAny_bind (wpAny_pure (wpAny_bind (L0.at (wpAny_bind (L2.at (wpAny_pure ?_))))))))
  show wpAny _ _ (handedOut v) _ _ _
  rw [PySem.W.handedOut_of hv']; exact wpAny_pure h
end
def excO (e C : Addr) (dx : Option Addr) : HO := .ext fun h => ∃ t sl, h.get? e = some { cls := .ref C, dict := dx, data := .fields #[.ref t, .none, .none, .none, .bool false, .none], slots := sl }
def dctO (dx : Addr) (fs : List (Str × V)) : HO := .ext fun h => ∃ mA, h.Ns1 dx mA ∧ (∀ f, RelO (fs.lookup f) (mA f)) ∧ PySem.Within mA (fs.map (·.1)) ∧ fs.length ≤ 100
section
variable {P : Program} {w : World} {H : Hp} {h : Heap} {e C dx : Addr}
theorem excO_ok {do' : Option Addr} {t : Addr} {sl : Array (Option Value)} (q : h.get? e = some { cls := .ref C, dict := do', data := .fields #[.ref t, .none, .none, .none, .bool false, .none], slots := sl }) : ObjOk P w H h e (excO e C do') :=
  ⟨⟨t, sl, q⟩, ⟨_, q⟩, fun h1 h2 ⟨t, sl, z⟩ k => ⟨t, sl, k _ z⟩⟩
theorem dctO_ok {fs : List (Str × V)} {mA : Str → Option Value} (n : h.Ns1 dx mA) (r : ∀ f, RelO (fs.lookup f) (mA f)) (wi : PySem.Within mA (fs.map (·.1))) (hl : fs.length ≤ 100) : ObjOk P w H h dx (dctO dx fs) := by
  refine ⟨⟨mA, n, r, wi, hl⟩, ?_, fun h1 h2 ⟨mA, n, r, wi, hl⟩ k => ⟨mA, n.at k, r, wi, hl⟩⟩
  obtain ⟨o, _, _, q, _⟩ := n
  exact ⟨o, q⟩
end
structure ExcC (K : PySem.W.Frag) (C f : Addr) (bm : List Value) : Prop where
  obj : ∃ nm q N bs hdct sn sub ab col dd k0 k1 k2 k3 k5, K.lookup C = some (excClassObj nm q C N bs bm hdct sn sub ab col dd k0 k1 k2 k3 k5 "ValueError.__new__")
  bm_ok : ExcF "ValueError" "ValueError.__new__" "ValueError.__init__" bm
  init : PySem.W.findIn K (.ref C) "__init__" = some (some (.ref f))
  fn : ∃ o, K.lookup f = some o ∧ o.cls = .type "function"
  kp : PySem.W.keepIn K (.ref C) = true
structure ExcS (K : PySem.W.Frag) (C : Addr) : Prop where
  sa : PySem.W.findIn K (.ref C) "__setattr__" = some (some (.builtin "object.__setattr__"))
  po : excOver K C = true
  hd : PySem.W.hasDictIn K C = true
section
variable {X : Cx} {CX : CXT} {k m : Nat} {f C : Addr} {fd : FuncData} {ps : List Str} {sp : Sp} {E : XK} {x : Str} {p pos : Pos} {e : Expr} {es : List Expr} {t : TA} {bm : List Value}
def sExc (K : PySem.W.Frag) (ta tv : TE) (f : Str) : TS := fun D σ H => tv σ H fun y H1 => ta σ H1 fun x H2 => ∃ a C, x = .ref a ∧ ExcS K C ∧ PySem.W.takerIn K C f = some none ∧
  ((H2 a = some (excO a C none) ∧ ∀ dx, H2 dx = none → D.nx σ (upd (upd H2 dx (dctO dx [(f, y)])) a (excO a C (some dx)))) ∨
   ∃ dx fs, H2 a = some (excO a C (some dx)) ∧ H2 dx = some (dctO dx fs) ∧ dx ≠ a ∧ fs.length < 100 ∧ D.nx σ (upd H2 dx (dctO dx (putF f y fs))))
theorem ps_exc {o value : Expr} {f : Str} {ta tv : TE} {pos' : Pos} (ha : PE X o ta) (hv : PE X value tv) (hs : swapsWith value (some (.Attribute o f pos')) pos.line X.env = pure false := by rfl) : PS X (.Assign [.Attribute o f pos'] value pos) (sExc X.K ta tv f) := by
  intro pins s σ H D I h
  refine plainObj_wpAny_Assign_Attribute (thn (hv pins s σ H _ I h) fun u s1 ⟨y, H1, I1, ry, q⟩ => thn (ha pins s1 σ H1 _ I1 q) fun ov s2 ⟨x, H2, I2, rx, a, C, ex, S, tk, q2⟩ => ?_) hs
  subst ex
  obtain rfl : ov = Value.ref a := rx
  rcases q2 with ⟨ho, q3⟩ | ⟨dx, fs, ho, hd, hne, hl, q3⟩
  · obtain ⟨⟨t, sl, ge⟩, _, _⟩ : ObjOk X.prog X.w H2 s2.heap a (excO a C none) := I2.hok a _ ho
    refine exc_set0 I2.kIn ge rfl rfl rfl S.sa S.po tk S.hd fun h' kp ge' n' => ?_
    have hfr : H2 s2.heap.objs.size = none := I2.hok.fresh (Nat.le_refl _)
    have nas : a ≠ s2.heap.objs.size := ne_of_none ho hfr
    have other : ∀ b, b ≠ a → b ≠ s2.heap.objs.size → (upd (upd H2 s2.heap.objs.size (dctO s2.heap.objs.size [(f, y)])) a (excO a C (some s2.heap.objs.size))) b = H2 b := fun b h1 h2 => by rw [upd_ne h1, upd_ne h2]
    have nlt : ∀ b o, s2.heap.get? b = some o → b ≠ s2.heap.objs.size := fun b o z => Nat.ne_of_lt (Heap.lt_size z)
    have na : ∀ b, H2 b = none → b ≠ a := fun b z q => by rw [q, ho] at z; cases z
    have ext_ne : ∀ b u, H2 b = some u → u ≠ excO a C none → b ≠ a := fun b u z d q => by
      rw [q, ho] at z
      exact d (Option.some.inj z).symm
    refine ⟨σ, _, I2.un ⟨fun b o z n _ _ => kp b o (na b n) z, fun b o z n _ _ => ⟨o.slots, kp b o (na b n) z⟩, fun b o z n _ => by rw [other b (na b n) (nlt b o z)]; exact n, fun b o z _ => ?_, fun b xs z => ?_, fun b o u z => ?_, fun b ps z => ⟨#[], ?_⟩⟩ (fun b u z => ?_), q3 _ hfr⟩
    · by_cases hb : b = a
      · exact ⟨_, by rw [hb]; exact ge'⟩
      · exact ⟨o, kp b o hb z⟩
    · rw [other b (ext_ne b _ z (by intro q; cases q)) (ne_of_none z hfr)]; exact z
    · rw [other b (ext_ne b _ z (by intro q; cases q)) (ne_of_none z hfr)]; exact z
    · rw [other b (ext_ne b _ z (by intro q; cases q)) (ne_of_none z hfr), z]; simp
    · by_cases hb : b = a
      · subst hb
        rw [upd_same] at z
        cases z
        exact excO_ok ge'
      · by_cases hb2 : b = s2.heap.objs.size
        · subst hb2
          rw [upd_ne hb, upd_same] at z
          cases z
          refine dctO_ok n' (fun g => ?_) (fun g hg => ?_) (by simp)
          · show RelO ([(f, y)].lookup g) (if g = f then some u else none)
            by_cases zz : g = f
            · rw [if_pos zz, zz]; simpa [List.lookup_cons, RelO] using ry
            · have : (g == f) = false := by simpa using zz
              rw [if_neg zz]
              simp [List.lookup_cons, this, RelO]
          · by_cases zz : g = f
            · simp [zz]
            · exact absurd (show (if g = f then some u else none) = none by rw [if_neg zz]) hg
        · rw [other b hb hb2] at z
          refine (I2.hok b u z).stay (fun c v hc q => kp c v ?_ q) (fun c q => ?_) fun c xs q => ?_
          · rcases hc with rfl | hc
            · exact hb
            · exact ext_ne c _ hc (by intro q; cases q)
          · rw [other c (ext_ne c _ q (by intro q; cases q)) (ne_of_none q hfr)]; exact q
          · rw [other c (ext_ne c _ q (by intro q; cases q)) (ne_of_none q hfr)]; exact q
  · obtain ⟨⟨t, sl, ge⟩, _, _⟩ : ObjOk X.prog X.w H2 s2.heap a (excO a C (some dx)) := I2.hok a _ ho
    obtain ⟨⟨mA, n, r, wi, hl'⟩, _, _⟩ : ObjOk X.prog X.w H2 s2.heap dx (dctO dx fs) := I2.hok dx _ hd
    refine exc_set1 I2.kIn ge rfl rfl rfl n hne S.sa S.po tk S.hd wi (by rw [List.length_map]; omega) fun h' sb n' => ?_
    refine ⟨σ, _, I2.write (x := dx) (e := dx) (by rw [hd]; trivial) (.inl rfl) (fun b o hb z => (sb.2 b hb).trans z) (let ⟨o, _, _, z, _⟩ := n'; ⟨o, z⟩) (dctO_ok n' (fun g => ?_) (fun g hg => ?_) ?_), q3⟩
    · show RelO ((putF f y fs).lookup g) (if g = f then some u else mA g)
      rw [lookup_putF]
      by_cases z : g = f
      · rw [if_pos z, if_pos z]; exact ry
      · rw [if_neg z, if_neg z]; exact r g
    · by_cases z : g = f
      · rw [z]; exact (keys_putF f y fs).1
      · refine (keys_putF f y fs).2 g (wi g fun z2 => hg ?_)
        show (if g = f then some u else mA g) = none
        rw [if_neg z]; exact z2
    · have := length_putF f y fs; omega
structure ExcG (K : PySem.W.Frag) (C : Addr) : Prop where
  ga : PySem.W.findIn K (.ref C) "__getattribute__" = some (some (.builtin "BaseException.__getattribute__"))
  gb : PySem.W.findIn K (.ref C) "__getattr__" = some none
  mb : PySem.W.mroIn K C (.type "BaseException") = some true
  hd : PySem.W.hasDictIn K C = true
end
section
variable {M : Model} {A : Around} {E : Value → Shared → Prop} {s : Shared} {base : Heap} {env : Env} {outer : List Env} {L e : Addr} {oe : Obj} {vs : Array Value}
structure Left (fr : List Addr) (h h' : Heap) (e : Addr) (oe : Obj) (vs : Array Value) (T : Addr) : Prop where
  keep : ∀ b o, b ≠ e → b ∉ fr → h.get? b = some o → (∀ z, vs[1]? = some (.ref z) → b ≠ z) → h'.get? b = some o
  slot : ∀ b o, b ∈ fr → h.get? b = some o → ∃ sl, h'.get? b = some { o with slots := sl }
  new : h.objs.size ≤ T
  ent : ∃ oT ts, h'.get? T = some oT ∧ oT.data = .fields ts ∧ ts[3]? = some .none
  obj : h'.get? e = some { oe with data := .fields (vs.setIfInBounds 1 (.ref T)) }
theorem noFrame (hl : s.heap.FunFrames base (env :: outer)) (he : s.heap.get? e = some oe) (hd : oe.data = .fields vs) : e ∉ frs (env :: outer) := fun hm => by
  obtain ⟨_, o, ho, hn⟩ := hl.mem hm
  rw [he] at ho; cases ho
  exact hn vs hd
theorem leave_tail {head : Value} {hadNext : Bool} {Q : Unit → Shared → Prop} (hfr : A.frames = some (env :: outer)) (hl : s.heap.FunFrames base (env :: outer)) (hf : env.frame = some L) (he : s.heap.get? e = some oe) (hd : oe.data = .fields vs) (hsz : 1 < vs.size)
    (h : ∀ h' T, Left (frs (env :: outer)) s.heap h' e oe vs T → Q () { s with heap := h' }) :
    wpAny M A (do let a ← frameOf env; let pl ← entryPlaceOf L hadNext; let b ← EntryCells.newEntry head a .none (rawInt L) .none pl; setField (.ref e) 1 b) (fun _ s' => wpAny M A (setFlight (.ref e) none) Q E s') E s := by
  have hne := noFrame hl he hd
  refine wpAny_bind (wpAny_frameOf_fun hfr hl hf fun g hg => wpAny_bind (wpAny_entryPlaceOf fun pl hpl => ?_))
  unfold EntryCells.newEntry newFields
  refine wpAny_bind (wpAny_newObj_type ?_ (hpl.sizeOk5 _ _ _ _ _))
  have he1 : g.get? e = some oe := (hg.2.1 e hne).trans he
  have gsz : s.heap.objs.size ≤ g.objs.size := by
    have := hg.1
    omega
  generalize hT : ({ cls := .type "traceback", data := .fields ([head, .ref L, .none, rawInt L, .none] ++ (if pl.isEmpty then List.replicate 6 Value.none else pl)).toArray } : Obj) = oT
  obtain ⟨ts, hts, h4⟩ : ∃ ts : Array Value, oT.data = .fields ts ∧ 3 < ts.size := by
    rw [← hT]
    exact ⟨_, rfl, by simp only [List.size_toArray, List.length_append, List.length_cons, List.length_nil]; omega⟩
  have fresh : ∀ b o, g.get? b = some o → g.objs.size ≠ b := fun b o z => Nat.ne_of_gt (Heap.lt_size z)
  have he2 : (g.push oT).get? e = some oe := Heap.get?_push_of_some _ he1
  have hTe : g.objs.size ≠ e := fresh e oe he1
  refine wpAny_setField he2 hd hsz ?_
  have hd3 := Obj.data_mapFields hd (·.setIfInBounds 1 (Value.ref g.objs.size))
  have he3 := Heap.get?_update_self (Obj.mapFields (·.setIfInBounds 1 (Value.ref g.objs.size))) he2 (Obj.isFreed_of_fields hd3)
  have hfr' : oT.isFreed = false := Obj.isFreed_of_fields hts
  have hT3 : ((g.push oT).update e (Obj.mapFields (·.setIfInBounds 1 (Value.ref g.objs.size)))).get? g.objs.size = some oT := (Heap.get?_update_other _ _ (Ne.symm hTe)).trans (Heap.get?_push_size g hfr')
  unfold setFlight
  refine wpAny_bind (wpAny_field he3 hd3 (x := .ref g.objs.size) (by simp [hsz]) ?_)
  rw [if_pos (show (Value.ref g.objs.size != Value.none) = true from by simp)]
  have keepAll : ∀ b o, b ≠ e → g.get? b = some o → (((g.push oT).update e (Obj.mapFields (·.setIfInBounds 1 (Value.ref g.objs.size)))).update g.objs.size (Obj.mapFields (·.setIfInBounds 3 ((none : Option Addr).elim Value.none fun f => rawInt f)))).get? b = some o := fun b o hb z => by
    rw [Heap.get?_update_other _ _ (fresh b o z), Heap.get?_update_other _ _ (Ne.symm hb)]
    exact Heap.get?_push_of_some _ z
  refine wpAny_setField hT3 hts h4 (h _ g.objs.size ⟨fun b o hb hn z _ => keepAll b o hb ((hg.2.1 b hn).trans z), fun b o hb z => ?_, gsz, ?_, ?_⟩)
  · obtain ⟨sl, z2⟩ := hg.2.2 b o z
    exact ⟨sl, keepAll b _ (fun q => hne (by rw [← q]; exact hb)) z2⟩
  · exact ⟨_, _, Heap.get?_update_self _ hT3 (Obj.isFreed_of_fields (Obj.data_mapFields hts _)), Obj.data_mapFields hts _, by simp [h4]⟩
  · rw [Heap.get?_update_other _ _ hTe, he3]
    obtain ⟨c1, d1, t1, s1⟩ := oe
    simp only at hd
    subst hd
    rfl
theorem leave_first {Q : Unit → Shared → Prop} (hfr : A.frames = some (env :: outer)) (hl : s.heap.FunFrames base (env :: outer)) (hf : env.frame = some L) (he : s.heap.get? e = some oe) (hd : oe.data = .fields vs) (h1 : vs[1]? = some .none)
    (h : ∀ h' T, Left (frs (env :: outer)) s.heap h' e oe vs T → Q () { s with heap := h' }) : wpAny M A (leaving env (.ref e)) Q E s := by
  unfold leaving noteFrame
  simp only [hf]
  refine wpAny_bind (wpAny_bind (wpAny_field he hd h1 ?_))
  rw [if_neg (by decide)]
  exact leave_tail hfr hl hf he hd (Array.getElem?_eq_some_iff.mp h1).1 h
end
def Flown (n : Nat) (h : Heap) (a C : Addr) (dx : Option Addr) (H : Hp) : Prop :=
  ∃ oe vs T oT ts, h.get? a = some oe ∧ oe.cls = .ref C ∧ oe.dict = dx ∧ oe.data = .fields vs ∧ vs[1]? = some (.ref T) ∧ T ≠ a ∧ h.get? T = some oT ∧ oT.data = .fields ts ∧ ts[3]? = some .none ∧ H a = none ∧ H T = none ∧ n ≤ a ∧ n ≤ T
def CX1 (P : Program) (w : World) : CXT := fun outer H s E ev s' =>
  ∃ a C dx H', ev = .ref a ∧ s'.os = s.os ∧ AllBare s'.gens ∧ Un (frs outer) [] H H' s.heap s'.heap ∧ HOk P w H' s'.heap ∧ Flown s.heap.objs.size s'.heap a C dx H' ∧ E (.ref C) dx H'
theorem pass10 {P : Program} {w : World} {X : Cx} : Passes (CX1 P w) X E0 := fun _ _ _ _ _ _ _ ⟨_, _, _, _, _, _, _, _, _, _, z⟩ => z.elim
theorem left_hok {P : Program} {w : World} {H : Hp} {h h' : Heap} {fr : List Addr} {e T : Addr} {oe : Obj} {vs : Array Value} (ok : HOk P w H h) (lf : Left fr h h' e oe vs T) (he : H e = none) (hT : ∀ z, vs[1]? = some (.ref z) → H z = none) (hfr : ∀ b ∈ fr, H b = none) : HOk P w H h' := fun b u z => by
  refine (ok b u z).stay (fun c v hc q => ?_) (fun _ q => q) fun _ _ q => q
  have hcs : ∃ x, H c = some x := by
    rcases hc with rfl | hc
    · exact ⟨_, z⟩
    · exact ⟨_, hc⟩
  obtain ⟨x, hx⟩ := hcs
  exact lf.keep c v (ne_of_none hx he) (fun m => by rw [hfr c m] at hx; cases hx) q fun y hy => ne_of_none hx (hT y hy)
theorem left_un {H0 H : Hp} {h0 h h' : Heap} {fs fr : List Addr} {e T : Addr} {oe : Obj} {vs : Array Value} (u : Un fs [] H0 H h0 h) (lf : Left fr h h' e oe vs T) (hfs : ∀ b, b ∈ fs → b ∈ fr) (hfr : ∀ b o, h0.get? b = some o → b ∈ fr → b ∈ fs)
    (he : h0.objs.size ≤ e) (hT : ∀ z, vs[1]? = some (.ref z) → h0.objs.size ≤ z) : Un fs [] H0 H h0 h' := by
  have ne : ∀ b o, h0.get? b = some o → b ≠ e ∧ ∀ z, vs[1]? = some (.ref z) → b ≠ z := fun b o q =>
    ⟨Nat.ne_of_lt (Nat.lt_of_lt_of_le (Heap.lt_size q) he), fun z hz => Nat.ne_of_lt (Nat.lt_of_lt_of_le (Heap.lt_size q) (hT z hz))⟩
  refine ⟨fun b o q n hb hx => lf.keep b o (ne b o q).1 (fun m => hb (hfr b o q m)) (u.keep b o q n hb hx) (ne b o q).2, fun b o q n hb hx => ?_, u.free, fun b o q hx => ?_, u.tups, u.frzs, u.tbls⟩
  · obtain ⟨sl, z⟩ := u.slot b o q n hb hx
    obtain ⟨sl2, z2⟩ := lf.slot b _ (hfs b hb) z
    exact ⟨sl2, z2⟩
  · obtain ⟨o2, z⟩ := u.there b o q hx
    by_cases m : b ∈ fr
    · obtain ⟨sl, z2⟩ := lf.slot b o2 m z
      exact ⟨_, z2⟩
    · exact ⟨o2, lf.keep b o2 (ne b o q).1 m z (ne b o q).2⟩
mutual
def pyD : Dt → PyData
  | .non => .none
  | .bl b => .bool b
  | .int i => .int i
  | .str x => .str x
  | .lst xs => .list (pyDs xs)
  | .tup xs => .tuple (pyDs xs)
def pyDs : List Dt → List PyData
  | [] => []
  | x :: xs => pyD x :: pyDs xs
end
section
variable {X : Cx} {pins : List (Addr × Obj)} {σ : St} {H : Hp} {s : Shared}
mutual
theorem reads_of (I : Inv X pins σ H s) : ∀ (d : Dt) (v : V) (u : Value), Rep X.K H d v → RelV v u → ∃ as, Reads s.heap u (pyD d) as
  | .non, v, u, h, r => by
    obtain rfl : v = .non := by simpa [Rep] using h
    cases (show u = Value.none from r)
    exact ⟨_, .none⟩
  | .bl b, v, u, h, r => by
    obtain rfl : v = .bl b := by simpa [Rep] using h
    cases (show u = Value.bool b from r)
    exact ⟨_, .bool b⟩
  | .int i, v, u, h, r => by
    obtain rfl : v = .int i := by simpa [Rep] using h
    obtain ⟨t, rfl⟩ := (show ∃ t, u = Value.int i t from r)
    exact ⟨_, .int i t⟩
  | .str x, v, u, h, r => by
    obtain rfl : v = .str x := by simpa [Rep] using h
    obtain ⟨t, rfl⟩ := (show ∃ t, u = Value.str x t from r)
    exact ⟨_, .str x t⟩
  | .lst ds, v, u, h, r => by
    obtain ⟨p, xs, rfl, hq, hr⟩ : ∃ p xs, v = .ref p ∧ SqL X.K H p xs ∧ Reps X.K H ds xs := by simpa [Rep] using h
    cases (show u = Value.ref p from r)
    obtain ⟨its, rv, ⟨o, n, e, c, _, dd⟩, _⟩ := I.list hq
    obtain ⟨as, ra⟩ := readsAll_of I ds xs its hr rv
    exact ⟨_, .list e c dd (by simpa using ra)⟩
  | .tup ds, v, u, h, r => by
    obtain ⟨p, xs, rfl, hq, hr⟩ : ∃ p xs, v = .ref p ∧ SqT X.K H p xs ∧ Reps X.K H ds xs := by simpa [Rep] using h
    cases (show u = Value.ref p from r)
    obtain ⟨its, rv, ⟨o, e, c, n, dd⟩, _⟩ := I.tuple hq
    obtain ⟨as, ra⟩ := readsAll_of I ds xs its hr rv
    exact ⟨_, .tuple e c dd (by simpa using ra)⟩
theorem readsAll_of (I : Inv X pins σ H s) : ∀ (ds : List Dt) (xs : List V) (us : List Value), Reps X.K H ds xs → Vals xs us → ∃ as, ReadsAll s.heap us (pyDs ds) as
  | [], xs, us, h, r => by
    obtain rfl : xs = [] := by simpa [Reps] using h
    cases r
    exact ⟨_, .nil⟩
  | d :: ds, xs, us, h, r => by
    obtain ⟨x, q, rfl, h1, h2⟩ : ∃ x r, xs = x :: r ∧ Rep X.K H d x ∧ Reps X.K H ds r := by simpa [Reps] using h
    cases r with
    | cons r1 r2 =>
      obtain ⟨as, a⟩ := reads_of I d x _ h1 r1
      obtain ⟨bs, b⟩ := readsAll_of I ds q _ h2 r2
      exact ⟨_, .cons a b⟩
end
mutual
theorem noDict_pyD : ∀ d : Dt, (pyD d).hasDict = false
  | .non => by simp [pyD, PyData.hasDict]
  | .bl _ => by simp [pyD, PyData.hasDict]
  | .int _ => by simp [pyD, PyData.hasDict]
  | .str _ => by simp [pyD, PyData.hasDict]
  | .lst xs => by simp only [pyD, PyData.hasDict]; exact noDict_pyDs xs
  | .tup xs => by simp only [pyD, PyData.hasDict]; exact noDict_pyDs xs
theorem noDict_pyDs : ∀ ds : List Dt, PyData.hasDictAll (pyDs ds) = false
  | [] => by simp [pyDs, PyData.hasDictAll]
  | d :: ds => by simp only [pyDs, PyData.hasDictAll, noDict_pyD d, noDict_pyDs ds, Bool.or_false]
end
end
def Shows (X : Cx) (H : Hp) (x : V) (d : PyData) : Prop := ∀ (pins : List (Addr × Obj)) (σ : St) (s : Shared) (u : Value), Inv X pins σ H s → RelV x u → ∃ as, Reads s.heap u d as ∧ (d.hasDict = true → sysModules ∉ as)
theorem shows_rep {X : Cx} {H : Hp} {x : V} {d : Dt} (h : Rep X.K H d x) : Shows X H x (pyD d) := fun pins σ s u I r => by
  obtain ⟨as, a⟩ := reads_of I d x u h r
  exact ⟨as, a, PyData.noDict_hsm (noDict_pyD d)⟩
structure ExcI (K : PySem.W.Frag) (C R : Addr) : Prop where
  g : ExcG K C
  mro : (PySem.W.clsIn K C).map (·.mro) = some [.ref C, .ref R, .type "ValueError", .type "Exception", .type "BaseException", .type "object"]
  ty : PySem.W.typeIn K (.ref C) = some (.type "type")
  ha : PySem.W.findIn K (.ref C) "__class__" = some (some (.builtin "object.__class__"))
  hn : PySem.W.specialIn K (.builtin "object.__class__") "__get__" = some (some (.builtin "getset_descriptor.__get__"))
  tk : PySem.W.takesIn K (.builtin "object.__class__") = some true
section
variable {prog : Program} {w : World} {A : Around} {E : Value → Shared → Prop} {s : Shared} {K : PySem.W.Frag} {e C R D : Addr} {oe : Obj} {odo : Option Obj}
theorem ExcI.in (G : ExcI K C R) (b : Value) : PySem.W.mroIn K C b = some ([Value.ref C, .ref R, .type "ValueError", .type "Exception", .type "BaseException", .type "object"].contains b) := by
  obtain ⟨cd, hc, hm⟩ := Option.map_eq_some_iff.mp G.mro
  unfold PySem.W.mroIn
  rw [hc, Option.bind_some, hm]
  rfl
theorem exc_class {Q : Option Value → Shared → Prop} (G : ExcI K C R) (X : K.In s.heap) (J : PySem.W.InstAt s.heap e oe C odo) (h : Q (some (.ref C)) { s with toks := s.toks + 1 }) : wpAny (model prog w) A (getAttr? (.ref e) "__class__") Q E s := by
  have hfo : PySem.W.findObj K C odo "__class__" = some (.bind (.builtin "getset_descriptor.__get__") (.builtin "object.__class__")) := by
    obtain ⟨cd, hc, hm⟩ := Option.map_eq_some_iff.mp G.mro
    unfold PySem.W.findObj
    rw [hc, Option.bind_some, G.ha, Option.bind_some]
    simp [G.hn, G.tk]
  obtain ⟨hp, g, d, t, os⟩ := s
  have L0 := J.type (M := model prog w)
  have L1 := PySem.W.looks_findIn (M := model prog w) X G.g.ga
  have L2 := PySem.W.looks_find (M := model prog w) X J hfo
  have L3 := PySem.W.looks_findIn (M := model prog w) X G.g.gb
  have hx0 : (false && onTheHeap (Value.builtin "BaseException.__getattribute__")) = false := rfl
  have sub : PySem.W.Looks (model prog w) hp (isInstance (.ref e) (.type "BaseException")) true := J.type.andThen (PySem.W.looks_mroIn X G.g.mb)
  unfold getAttr? getAttrBy? getAttrBy
  refine wpAny_bind (wpAny_mkText (wpAny_bind (wpAny_attempt (wpAny_holding (wpAny_bind (L0.at (wpAny_bind (L1.at ?_))))))))
  show wpAny _ _ (getAttrByItsOwn (.ref e) (.str "__class__" t) (.ref C) (.builtin "BaseException.__getattribute__") false false) _ _ _
  unfold getAttrByItsOwn
  refine wpAny_bind (show wpAny _ _ (typeLookup (.ref C) "__getattr__") _ _ _ from L3.at ?_)
  refine wpAny_bind (wpAny_attempt (wpAny_holding ?_))
  unfold callGetattribute
  rw [hx0, if_neg Bool.false_ne_true]
  unfold boundAndCalled
  rw [PySem.F.excAttr_ValueError.ga.bind (.ref e)]
  refine wpAny_bind (wpAny_pure (wpAny_call (codeAny_call_builtin PySem.F.excAttr_ValueError.ga.plain PySem.F.entry_bexc_ga (@PySem.W.check_slot (model prog w) _ _ _ "BaseException.__getattribute__" "BaseException" "__getattribute__" (.ref e) [.str "__class__" t] [] _ (by decide +kernel) (by decide +kernel) sub (PySem.F.args_bexc_ga _ _) ?_))))
  refine wpAny_bind (wpAny_pure (wpAny_bind (wpAny_pure (wpAny_bind (L0.at (wpAny_bind (L2.at ?_)))))))
  have hm : PySem.W.mroIn K C (.type "object") = some true := G.in _
  refine wpAny_bind (wpAny_holding (wpAny_call (PySem.W.class_get (s := ⟨hp, g, d, t + 1, os⟩) (ox := oe) (od := odo) X J hm (wpAny_pure ?_))))
  exact PySem.W.handed_on rfl (wpAny_pure h)
theorem kitx_exc (G : ExcI K C R) : PySem.W.KitX K (.ref e) (.ref C) (fun h => ∃ oe odo, PySem.W.InstAt h e oe C odo) where
  ty := fun _ _ _ ⟨_, _, J⟩ => J.type
  it := fun _ _ X _ => by
    obtain ⟨cd, hc, _⟩ := Option.map_eq_some_iff.mp G.mro
    unfold PySem.W.clsIn at hc
    split at hc
    · rename_i c' d' cd' sl' ho
      intro A' Q' E' s' k q
      unfold isType loadHead
      exact wpAny_bind (wpAny_loadPart (k _ _ (X _ _ ho)) (wpAny_pure q))
    · cases hc
  ne := fun h tp dd its n sl X htp => by
    obtain ⟨cd, hc, _⟩ := Option.map_eq_some_iff.mp G.mro
    refine Bool.eq_false_iff.mpr fun q => ?_
    have e : C = tp := Value.ref.inj (beq_iff_eq.mp q)
    subst e
    unfold PySem.W.clsIn at hc
    split at hc
    · rename_i c' d' cd' sl' ho
      have z := (X _ _ ho).symm.trans htp
      cases z
    · cases hc
  ca := fun X ⟨_, _, J⟩ k => exc_class G X J k
theorem kit_excR (G : ExcI K C R) (hR : (PySem.W.clsIn K R).isSome = true) (tR : PySem.W.typeIn K (.ref R) = some (.type "type")) : PySem.W.kitOne K (.ref C) (.ref R) = some true := by
  unfold PySem.W.kitOne
  by_cases q : C = R
  · subst q
    rw [if_pos (by simp)]
  · rw [if_neg (by simpa using q)]
    unfold PySem.W.kitCls
    simp only
    rw [if_pos (by rw [hR, tR]; rfl)]
    show PySem.W.mroIn K C (.ref R) = _
    rw [G.in]
    simp [List.contains_cons]
end
def ExcAt (H : Hp) (x C : Addr) (fs : List (Str × V)) : Prop := (fs = [] ∧ H x = some (excO x C none)) ∨ ∃ dx, H x = some (excO x C (some dx)) ∧ H dx = some (dctO dx fs) ∧ dx ≠ x
theorem ExcAt.same {H H' : Hp} {x C : Addr} {fs : List (Str × V)} (e : Same H H') (h : ExcAt H x C fs) : ExcAt H' x C fs := by
  rcases h with ⟨a, b⟩ | ⟨dx, a, b, c⟩
  · exact .inl ⟨a, e _ _ b⟩
  · exact .inr ⟨dx, e _ _ a, e _ _ b, c⟩
def spI1 (C : Addr) (f : Str) : Sp := fun vs H Q _ => ∃ x v, vs = [.ref x, v] ∧ H x = some (excO x C none) ∧ ∀ dx, H dx = none → Q .non (upd (upd H dx (dctO dx [(f, v)])) x (excO x C (some dx)))
def spI2 (C : Addr) (f g : Str) : Sp := fun vs H Q _ => ∃ x v y, vs = [.ref x, v, y] ∧ H x = some (excO x C none) ∧ ∀ dx, H dx = none → Q .non (upd (upd (upd H dx (dctO dx [(f, v)])) x (excO x C (some dx))) dx (dctO dx (putF g y [(f, v)])))
structure HasExc (K : PySem.W.Frag) (mg : Str → Option Value) (x qual : Str) (st : Stmt) (C R : Addr) : Prop where
  ex : ∃ f fd, ExcC K C f [.ref R, .type "ValueError", .type "Exception", .type "BaseException", .type "object"] ∧ Fun K "__init__" qual st f fd
  gl : mg x = some (.ref C)
  S : ExcS K C
  I : ExcI K C R
theorem bm_ok (R : Addr) : ExcF "ValueError" "ValueError.__new__" "ValueError.__init__" [.ref R, .type "ValueError", .type "Exception", .type "BaseException", .type "object"] := excF_ValueError.under R
section
variable {P : Program} {w : World} {K : PySem.W.Frag} {mg : Str → Option Value} {base : Heap} {CX : CXT} {X : Cx} {k m : Nat} {C R : Addr} {E : XK} {x qual f g : Str} {st : Stmt} {p pos : Pos} {e : Expr} {es : List Expr} {t : TA}
def InitOk (P : Program) (w : World) (K : PySem.W.Frag) (mg : Str → Option Value) (base : Heap) (CX : CXT) (qual : Str) (st : Stmt) (ps : List Str) (sp : Sp) : Prop := ∀ f fd, Fun K "__init__" qual st f fd → FnOk P w K mg base CX 1 f fd ps sp ∧ Binds K fd ps []
end
section
variable {K : PySem.W.Frag} {mg : Str → Option Value} {x qual : Str} {st : Stmt} {C R f : Addr} {nm q : Str} {N : Addr} {bs : List Value} {sn : List Str} {sub : List Value} {ab : Bool} {col : Option Bool} {dd : Option Addr} {k0 k1 k2 k3 k5 : Option Value} {od an : Option Addr} {osl : Array (Option Value)} {kV doc pm cdv ct : Value}
theorem excS_mk (l : K.lookup C = some (excClassObj nm q C N bs [.ref R, .type "ValueError", .type "Exception", .type "BaseException", .type "object"] true sn sub ab col dd k0 k1 k2 k3 k5 "ValueError.__new__"))
    (sa : PySem.W.findIn K (.ref C) "__setattr__" = some (some (.builtin "object.__setattr__"))) : ExcS K C := by
  have hc : ∃ cd, PySem.W.clsIn K C = some cd ∧ cd.mro = [.ref C, .ref R, .type "ValueError", .type "Exception", .type "BaseException", .type "object"] ∧ cd.hasDict = true := by
    unfold PySem.W.clsIn
    rw [l]
    exact ⟨_, rfl, rfl, rfl⟩
  obtain ⟨cd, h1, h2, h3⟩ := hc
  refine ⟨sa, ?_, ?_⟩
  · unfold excOver
    rw [h1, Option.any_some, h2]
    rfl
  · unfold PySem.W.hasDictIn
    rw [h1, Option.any_some, h3]
theorem excI_mk (l : K.lookup C = some (excClassObj nm q C N bs [.ref R, .type "ValueError", .type "Exception", .type "BaseException", .type "object"] true sn sub ab col dd k0 k1 k2 k3 k5 "ValueError.__new__"))
    (ga : PySem.W.findIn K (.ref C) "__getattribute__" = some (some (.builtin "BaseException.__getattribute__"))) (gb : PySem.W.findIn K (.ref C) "__getattr__" = some none)
    (ha : PySem.W.findIn K (.ref C) "__class__" = some (some (.builtin "object.__class__"))) (hn : PySem.W.specialIn K (.builtin "object.__class__") "__get__" = some (some (.builtin "getset_descriptor.__get__"))) (tk : PySem.W.takesIn K (.builtin "object.__class__") = some true) : ExcI K C R := by
  have hc : ∃ cd, PySem.W.clsIn K C = some cd ∧ cd.mro = [.ref C, .ref R, .type "ValueError", .type "Exception", .type "BaseException", .type "object"] ∧ cd.hasDict = true := by
    unfold PySem.W.clsIn
    rw [l]
    exact ⟨_, rfl, rfl, rfl⟩
  obtain ⟨cd, h1, h2, h3⟩ := hc
  refine ⟨⟨ga, gb, ?_, ?_⟩, ?_, ?_, ha, hn, tk⟩
  · unfold PySem.W.mroIn
    rw [h1, Option.bind_some, h2]
    rfl
  · unfold PySem.W.hasDictIn
    rw [h1, Option.any_some, h3]
  · rw [h1, Option.map_some, h2]
  · show (List.lookup C K).map (·.cls) = _
    rw [l]
    rfl
theorem HasExc.mk1 (m : mg x = some (.ref C)) (l : K.lookup C = some (excClassObj nm q C N bs [.ref R, .type "ValueError", .type "Exception", .type "BaseException", .type "object"] true sn sub ab col dd k0 k1 k2 k3 k5 "ValueError.__new__"))
    (i : PySem.W.findIn K (.ref C) "__init__" = some (some (.ref f))) (lf : K.lookup f = some ⟨.type "function", od, .func (PySem.W.fnOf "__init__" qual (defArgs st) (defBody st) (defScope st) .none kV doc pm an cdv ct), osl⟩)
    (c : PySem.W.codeIn K cdv qual = true) (kf : PySem.W.keepIn K (.ref f) = true) (kc : PySem.W.keepIn K (.ref C) = true) (S : ExcS K C) (I : ExcI K C R) : HasExc K mg x qual st C R :=
  ⟨⟨f, _, ⟨⟨nm, q, N, bs, true, sn, sub, ab, col, dd, k0, k1, k2, k3, k5, l⟩, bm_ok R, i, ⟨_, lf, rfl⟩, kc⟩, fun_mk lf c kf⟩, m, S, I⟩
end
structure Shm (m d : Nat) (x : PyData) : Prop where
  sh : x.showable = true
  ln : x.shown.length ≤ m
  dp : x.depth ≤ d
theorem Shm.mono {m m' d d' : Nat} {x : PyData} (h : Shm m d x) (a : m ≤ m') (b : d ≤ d') : Shm m' d' x := ⟨h.sh, Nat.le_trans h.ln a, Nat.le_trans h.dp b⟩
theorem shm_int {i : Int} {k : Nat} (hk : 0 < k) (h : i.natAbs < 10 ^ k) (h2 : k ≤ 200) : Shm (k + 1) 0 (.int i) := by
  refine ⟨?_, ?_, by rw [PyData.depth]; exact Nat.le_refl _⟩
  · simp only [PyData.showable, decide_eq_true_eq]
    by_cases hz : i.natAbs = 0
    · rw [hz]; decide
    · have h3 : 10 ^ k ≤ 10 ^ 200 := Nat.pow_le_pow_right (by decide) h2
      have h4 : i.natAbs < 2 ^ 1920 := Nat.lt_of_lt_of_le (Nat.lt_of_lt_of_le h h3) (by decide +kernel)
      exact (Nat.log2_lt hz).mpr h4
  · rw [PyData.shown]
    rw [PySem.ofString_length]
    exact int_text_length_le10 hk h
theorem shm_str {x : Str} (h : ∀ c ∈ x.cps.toList, c < 16 ^ 8) : Shm (10 * x.length + 2) 0 (.str x) := by
  refine ⟨by simp [PyData.showable], ?_, by rw [PyData.depth]; exact Nat.le_refl _⟩
  rw [PyData.shown]
  exact StrLaws.reprText_len x h
theorem shm_non : Shm 4 0 .none := ⟨by simp [PyData.showable], by rw [PyData.shown]; decide, by rw [PyData.depth]; exact Nat.le_refl _⟩
theorem shm_bl (b : Bool) : Shm 5 0 (.bool b) := ⟨by simp [PyData.showable], by rw [PyData.shown]; cases b <;> decide, by rw [PyData.depth]; exact Nat.le_refl _⟩
structure New (H H' : Hp) (p : Addr) (o : HO) : Prop where
  s : Same H H'
  e : H' p = some o
  n : ∀ a u, H a = some u → a ≠ p
theorem New.mk' {H : Hp} {p : Addr} {o : HO} (h : H p = none) : New H (upd H p o) p o := ⟨Same.new h, upd_same, fun a u q => ne_of_none q h⟩
section
variable {X : Cx} {es : List Expr} {t : TA} {pos : Pos}
def tTupA (t : TA) : TE := fun σ H Q => t σ H fun xs H1 => xs.length ≤ sizeLine ∧ ∀ p H', New H1 H' p (.tup xs) → Q (.ref p) H'
def tLstA (t : TA) : TE := fun σ H Q => t σ H fun xs H1 => xs.length ≤ sizeLine ∧ ∀ p H', New H1 H' p (.lst xs) → Q (.ref p) H'
theorem pe_tupA {x1} (h : PA X es t) : PE X (.Tuple es x1 pos) (tTupA t) := by
  intro pins s σ H Q I hq
  refine wpAny_Tuple_spliced (thn (h pos pins s σ H _ I hq) fun us s1 ⟨xs, H1, I1, r, z, q⟩ => ⟨by rw [← r.length]; exact z, ?_⟩)
  have hf : H1 s1.heap.objs.size = none := I1.hok.fresh (Nat.le_refl _)
  refine ⟨.ref s1.heap.objs.size, upd H1 s1.heap.objs.size (.tup xs), I1.laid (t' := s1.toks) (fun b u e => Heap.get?_push_of_some _ e) (Nat.le_refl _) ?_, rfl, q _ _ (.mk' hf)⟩
  exact ⟨z, us, r, ⟨_, Heap.get?_push_size _ rfl, rfl, _, rfl⟩⟩
theorem pe_lstA (h : PA X es t) : PE X (.List es pos) (tLstA t) := by
  intro pins s σ H Q I hq
  refine wpAny_List_spliced (thn (h pos pins s σ H _ I hq) fun us s1 ⟨xs, H1, I1, r, z, q⟩ => ⟨by rw [← r.length]; exact z, ?_⟩)
  have hf : H1 s1.heap.objs.size = none := I1.hok.fresh (Nat.le_refl _)
  refine ⟨.ref s1.heap.objs.size, upd H1 s1.heap.objs.size (.lst xs), I1.laid (t' := s1.toks) (fun b u e => Heap.get?_push_of_some _ e) (Nat.le_refl _) ?_, rfl, q _ _ (.mk' hf)⟩
  exact ⟨z, us, 0, r, Heap.get?_push_size _ rfl⟩
def rCatA : R2 := fun x y H Q => ∃ l b xs zs, x = .ref l ∧ y = .ref b ∧ H l = some (.lst xs) ∧ H b = some (.lst zs) ∧ xs.length + zs.length ≤ sizeLine ∧ ∀ p H', New H H' p (.lst (xs ++ zs)) → Q (.ref p) H'
theorem op_catA : OpR X (binaryOp .Add) rCatA := by
  intro pins s σ H x y v u Q I rx ry h
  obtain ⟨l, b, xs, zs, e1, e2, hH, hB, hz, q⟩ := h
  exact op_cat pins s σ H x y v u Q I rx ry ⟨l, b, xs, zs, e1, e2, hH, hB, hz, fun p hp => q p _ (.mk' hp)⟩
def rRepA : R2 := fun x y H Q => ∃ l k xs, x = .ref l ∧ y = .int k ∧ H l = some (.lst xs) ∧ -(2 ^ 63) ≤ k ∧ k < 2 ^ 63 ∧ xs.length * k.toNat ≤ sizeLine ∧ ∀ p H', New H H' p (.lst (List.replicate k.toNat xs).flatten) → Q (.ref p) H'
theorem op_repA : OpR X (binaryOp .Mult) rRepA := by
  intro pins s σ H x y v u Q I rx ry h
  obtain ⟨l, k, xs, e1, e2, hH, h1, h2, hz, q⟩ := h
  exact op_rep pins s σ H x y v u Q I rx ry ⟨l, k, xs, e1, e2, hH, h1, h2, hz, fun p hp => q p _ (.mk' hp)⟩
def rAppA : V → List V → Hp → VK → Prop := fun x vs H Q => ∃ l xs y, x = .ref l ∧ vs = [y] ∧ H l = some (.lst xs) ∧ xs.length < sizeLine ∧ ∀ H', Off l H H' → H' l = some (.lst (xs ++ [y])) → Q .non H'
theorem mt_appendA : MtM X "list.append" rAppA := by
  intro pins s σ H x vs v us Q I rx rv h
  obtain ⟨l, xs, y, e1, e2, hH, hz, q⟩ := h
  exact mt_append pins s σ H x vs v us Q I rx rv ⟨l, xs, y, e1, e2, hH, hz, q _ Off.upd upd_same⟩
theorem pe_appendA {o e : Expr} {to te : TE} {apos cpos : Pos} (ho : PE X o to) (he : PE X e te) (hbase : attributeBase o "append" X.env (eval o X.env) = eval o X.env := by rfl)
    (hfew : ((backTo cpos (starEach [e] X.env)).all (fun x => !x.1) && (backToKw cpos (keywordEach [] X.env)).all (fun x => x.1.isSome)
      && decide (([e] : List Expr).length + ([] : List Keyword).length + (if ([] : List Keyword).isEmpty then 0 else 1) < 30)) = true := by rfl)
    (hline : (apos.endLine == cpos.line) = true := by rfl) (hs : starEach [e] X.env = (false, eval e X.env) :: starEach [] X.env := by rfl) :
    PE X (.Call (.Attribute o "append" apos) [e] [] cpos) (tBM X.K "list" rAppA to (tCons te tNil)) :=
  pe_bm PySem.F.plainAttrs_list PySem.F.slot_list_append PySem.F.type_list_append mt_appendA ho (pa_cons he pa_nil hs) hbase hfew hline hs (by rfl)
end
theorem ExcAt.off {H H' : Hp} {l x C : Addr} {fs : List (Str × V)} {xs : List V} (o : Off l H H') (hl : H l = some (.lst xs)) (h : ExcAt H x C fs) : ExcAt H' x C fs := by
  have ne : ∀ {a : Addr} {r : Heap → Prop}, H a = some (.ext r) → a ≠ l := fun {a r} ha q => by
    rw [q, hl] at ha
    cases ha
  rcases h with ⟨a, b⟩ | ⟨dx, a, b, c⟩
  · exact .inl ⟨a, by rw [o x (ne b)]; exact b⟩
  · exact .inr ⟨dx, by rw [o x (ne a)]; exact a, by rw [o dx (ne b)]; exact b, c⟩
section
variable {σ σ' : St} {H : Hp} {v x y : V} {vs : List V} {t ta tb : TE} {tr : TA} {i j : Nat} {a C : Addr} {f g : Str} {fs : List (Str × V)} {Q : VK} {D : Ends} {s u : TS} {K : PySem.W.Frag} {tg : TG} {c : TT}
theorem go_cons {Q : List V → Hp → Prop} (h : t σ H fun x H1 => tr σ H1 fun xs H2 => Q (x :: xs) H2) : tCons t tr σ H Q := h
theorem go_nil {Q : List V → Hp → Prop} (h : Q [] H) : tNil σ H Q := h
theorem go_seq (h : s { D with nx := u D } σ H) : tSeq s u D σ H := h
theorem go_nx {nx bk ct : St → Hp → Prop} {rt : VK} (h : nx σ H) : (Ends.mk nx rt bk ct).nx σ H := h
theorem go_next (h : D.nx σ H) : tNext D σ H := h
theorem go_asg (h : t σ H fun x H1 => tg x σ H1 D.nx) : tAsg t tg D σ H := h
theorem go_tupA (h : tr σ H fun xs H1 => xs.length ≤ sizeLine ∧ ∀ p H', New H1 H' p (.tup xs) → Q (.ref p) H') : tTupA tr σ H Q := h
theorem go_lstA (h : tr σ H fun xs H1 => xs.length ≤ sizeLine ∧ ∀ p H', New H1 H' p (.lst xs) → Q (.ref p) H') : tLstA tr σ H Q := h
theorem go_op {r : R2} (h : ta σ H fun x H1 => tb σ H1 fun y H2 => r x y H2 Q) : tOp r ta tb σ H Q := h
theorem go_ret (h : t σ H D.rt) : tRet t D σ H := h
theorem go_drop (h : t σ H fun _ H1 => D.nx σ H1) : tDrop t D σ H := h
theorem go_if (h : c σ H fun b H1 => if b = true then s D σ H1 else u D σ H1) : tIfS c s u D σ H := h
theorem go_test {Q : Bool → Hp → Prop} (h : t σ H fun x H' => ∃ k, x = .bl k ∧ Q k H') : tTest t σ H Q := h
theorem go_b {Q : Bool → Hp → Prop} (h : t σ H fun x H' => ∃ k, x = .bl k ∧ Q k H') : tB t σ H Q := h
theorem go_cb {r : List V → Hp → VK → Prop} (h : tr σ H fun vs H1 => r vs H1 Q) : tCB r tr σ H Q := h
end
def del (H : Hp) (a : Addr) : Hp := fun b => if b = a then none else H b
section
variable {P : Program} {w : World} {H : Hp} {h : Heap} {a b : Addr} {φ : Heap → Prop} {o : HO}
theorem del_same : del H a a = none := by unfold del; rw [if_pos rfl]
theorem del_ne (h : b ≠ a) : del H a b = H b := by unfold del; rw [if_neg h]
theorem del_none (h : H b = none) : del H a b = none := by
  unfold del
  split
  · rfl
  · exact h
theorem HOk.del (ok : HOk P w H h) (ha : H a = some (.ext φ)) : HOk P w (del H a) h := fun b u z => by
  by_cases hb : b = a
  · rw [hb, del_same] at z
    cases z
  · rw [del_ne hb] at z
    refine (ok b u z).stay (fun _ _ _ q => q) (fun c q => ?_) fun c xs q => ?_
    · rw [del_ne fun e => by rw [e, ha] at q; cases q]
      exact q
    · rw [del_ne fun e => by rw [e, ha] at q; cases q]
      exact q
theorem HOk.track (ok : HOk P w H h) (ha : H a = none) (new : ObjOk P w (upd H a o) h a o) : HOk P w (upd H a o) h := fun b u z => by
  by_cases hb : b = a
  · subst hb
    rw [upd_same] at z
    cases z
    exact new
  · rw [upd_ne hb] at z
    refine (ok b u z).stay (fun _ _ _ q => q) (fun c q => ?_) fun c xs q => ?_
    · rw [upd_ne (ne_of_none q ha)]
      exact q
    · rw [upd_ne (ne_of_none q ha)]
      exact q
end
section
variable {X : Cx} {pins : List (Addr × Obj)} {σ : St} {H H1 : Hp} {s s1 : Shared} {a : Addr} {φ : Heap → Prop} {o : HO}
theorem Inv.del (I : Inv X pins σ H s) (ha : H a = some (.ext φ)) (h0 : X.H₀ a = none) : Inv X pins σ (del H a) s := by
  have ne : ∀ {b : Addr} {u : HO}, X.H₀ b = some u → b ≠ a := fun {b u} z => ne_of_none z h0
  refine ⟨I.ok, I.os, I.bare, ⟨I.base.keep, I.base.slot, fun b o e n hx => del_none (I.base.free b o e n hx), I.base.there, fun b xs e => ?_, fun b o u e => ?_, fun b ps e => ?_⟩, I.loc, I.cell, del_none I.free, fun x c e => del_none (I.freeC x c e), fun p hp => ?_, I.hok.del ha, I.len⟩
  · rw [del_ne (ne e)]; exact I.base.tups b xs e
  · rw [del_ne (ne e)]; exact I.base.frzs b o u e
  · rw [del_ne (ne e)]; exact I.base.tbls b ps e
  · obtain ⟨q1, q2, q3, q4, q5⟩ := I.pin p hp
    exact ⟨q1, del_none q2, q3, q4, q5⟩
theorem Inv.track (I : Inv X pins σ H s) (I0 : Inv X pins σ H1 s1) (na : s1.heap.objs.size ≤ a) (ha : H a = none) (new : ObjOk X.prog X.w (upd H a o) s.heap a o) : Inv X pins σ (upd H a o) s := by
  have s0 : X.s₀.heap.objs.size ≤ s1.heap.objs.size := I0.sz
  have ne : ∀ b ob, s1.heap.get? b = some ob → b ≠ a := fun b ob q => Nat.ne_of_lt (Nat.lt_of_lt_of_le (Heap.lt_size q) na)
  refine ⟨I.ok, I.os, I.bare, ⟨I.base.keep, I.base.slot, fun b o e n hx => ?_, I.base.there, fun b xs e => ?_, fun b o u e => ?_, fun b ps e => ?_⟩, I.loc, I.cell, ?_, fun x c e => ?_, fun p hp => ?_, I.hok.track ha new, I.len⟩
  · rw [upd_ne (Nat.ne_of_lt (Nat.lt_of_lt_of_le (Heap.lt_size e) (Nat.le_trans s0 na)))]
    exact I.base.free b o e n hx
  · have z := I.base.tups b xs e
    rw [upd_ne (ne_of_none z ha)]; exact z
  · have z := I.base.frzs b o u e
    rw [upd_ne (ne_of_none z ha)]; exact z
  · obtain ⟨m, z⟩ := I.base.tbls b ps e
    exact ⟨m, by rw [upd_ne (ne_of_none z ha)]; exact z⟩
  · rw [upd_ne (Nat.ne_of_lt (Nat.lt_of_lt_of_le I0.lt na))]
    exact I.free
  · obtain ⟨v, ob, ho, _⟩ := I0.cell x c e
    rw [upd_ne (ne c ob ho)]
    exact I.freeC x c e
  · obtain ⟨q1, q2, q3, q4, q5⟩ := I.pin p hp
    obtain ⟨r1, _⟩ := I0.pin p hp
    exact ⟨q1, by rw [upd_ne (ne _ _ r1)]; exact q2, q3, q4, q5⟩
end
section
variable {M : Model} {A : Around} {E : Value → Shared → Prop} {env : Env}
variable {nm q : Str} {C N : Addr} {bs bm : List Value} {hdct : Bool} {sn : List Str} {sub : List Value} {ab : Bool} {col : Option Bool} {dd : Option Addr} {k0 k1 k2 k3 k5 : Option Value} {newId : String}
theorem raise_own {s : Shared} {x : Sem Value} {Q : Flow → Shared → Prop} (hbase : bm.contains (.type "BaseException") = true) (hh : A.handled = none)
    (h : wpAny M A x (fun v s₁ => ∃ e t dx sl, v = .ref e ∧ s₁.heap.get? C = some (excClassObj nm q C N bs bm hdct sn sub ab col dd k0 k1 k2 k3 k5 newId) ∧
      s₁.heap.get? e = some { cls := .ref C, dict := dx, data := .fields #[.ref t, .none, .none, .none, .bool false, .none], slots := sl } ∧ E (.ref e) s₁) E s) :
    wpAny M A (raiseStmt env (some x) none) Q E s := by
  have hcB : (Value.ref C :: bm).contains (.type "BaseException") = true := by rw [List.contains_cons, hbase, Bool.or_true]
  unfold raiseStmt
  refine wpAny_bind (wpAny_mono h (fun v s₁ h₁ => ?_) fun _ _ x => x)
  obtain ⟨e, t, dx, sl, rfl, hC, he, hE⟩ := h₁
  obtain ⟨hp, g, d, tk, os⟩ := s₁
  repeat (first | with_reducible refine wpAny_loadPart_at he ?_ | with_reducible refine wpAny_loadPart_at hC ?_ | (with_reducible refine wpAny_isSubtype_exc hC ?_; rw [hcB]) | wp_step)
  exact wpAny_raiseNew_none hh hE
end
def ExcK (K : PySem.W.Frag) (C R : Addr) : Prop := ∃ nm q N bs hdct sn sub ab col dd k0 k1 k2 k3 k5, K.lookup C = some (excClassObj nm q C N bs [.ref R, .type "ValueError", .type "Exception", .type "BaseException", .type "object"] hdct sn sub ab col dd k0 k1 k2 k3 k5 "ValueError.__new__")
def tRaise (C : Addr) (H0 : Hp) (n : Nat) (E : XK) (te : TE) : TS := fun D σ H => te σ H fun x H1 => ∃ a dx, x = .ref a ∧ n ≤ a ∧ H0 a = none ∧ H1 a = some (excO a C dx) ∧ E (.ref C) dx (del H1 a)
section
variable {P : Program} {w : World} {K : PySem.W.Frag} {mg : Str → Option Value} {base : Heap} {N : List Str} {qual : Str} {scope : Scope} {f : Addr} {cd : Value} {A : Around} {outer : List Env} {s : Shared} {H : Hp} {E : XK}
theorem ps_raise {C R : Addr} {e : Expr} {te : TE} {pos : Pos} (hC : ExcK K C R) (he : PE (cxOf (CX1 P w) P w K mg base N qual scope f cd A outer s H E) e te) :
    PS (cxOf (CX1 P w) P w K mg base N qual scope f cd A outer s H E) (.Raise (some e) none pos) (tRaise C H s.heap.objs.size E te) := by
  intro pins s1 σ H1 D I h
  obtain ⟨nm, q, N', bs, hdct, sn, sub, ab, col, dd, k0, k1, k2, k3, k5, ho⟩ := hC
  rw [arm_exec_Raise]
  show wpAny (model P w) (A.deeper (envOfC qual scope s.heap.objs.size f cd)) (do standAt pos; raiseStmt (envOfC qual scope s.heap.objs.size f cd) (some (do let v ← eval e (envOfC qual scope s.heap.objs.size f cd); standAt pos; pure v)) none) _ _ s1
  refine wpAny_bind (wpAny_standAt (raise_own (C := C) (nm := nm) (q := q) (N := N') (bs := bs) (bm := [.ref R, .type "ValueError", .type "Exception", .type "BaseException", .type "object"]) (hdct := hdct) (sn := sn) (sub := sub) (ab := ab) (col := col) (dd := dd) (k0 := k0) (k1 := k1) (k2 := k2) (k3 := k3) (k5 := k5) (newId := "ValueError.__new__") (bm_ok R).hasE (I.ok.hd rfl) (wpAny_bind (thn (he pins s1 σ H1 _ I h) fun v s2 ⟨x, H2, I2, rx, a, dx, ex, na, h0, ha, q2⟩ => wpAny_bind (wpAny_standAt (wpAny_pure ?_))))))
  subst ex
  obtain rfl : v = Value.ref a := rx
  obtain ⟨⟨t, sl, ge⟩, _, _⟩ : ObjOk P w H2 s2.heap a (excO a C dx) := I2.hok a _ ha
  refine ⟨a, t, dx, sl, rfl, I2.kIn C _ ho, ge, ?_⟩
  have I3 : Inv (cxOf (CX1 P w) P w K mg base N qual scope f cd A outer s H E) pins σ (del H2 a) s2 := I2.del ha h0
  show wpAny (model P w) (A.deeper (envOfC qual scope s.heap.objs.size f cd)) (leaving (envOfC qual scope s.heap.objs.size f cd) (.ref a)) _ _ s2
  refine leave_first (base := base) I.ok.frames I3.stack rfl ge rfl rfl fun h' T' lf => ?_
  have hz : ∀ z, (#[Value.ref t, .none, .none, .none, .bool false, .none] : Array Value)[1]? = some (.ref z) → False := fun z q => by
    simp at q
  have hstk : ∀ b ∈ frs (envOfC qual scope s.heap.objs.size f cd :: outer), del H2 a b = none := I3.stkFree
  obtain ⟨oT', ts', gT', gt', g3'⟩ := lf.ent
  refine ⟨a, C, dx, del H2 a, rfl, I3.os, I3.bare, left_un I3.base lf (fun b hb => ?_) (fun b o q m => ?_) na (fun z q => (hz z q).elim), left_hok I3.hok lf del_same (fun z q => (hz z q).elim) hstk, ?_, q2⟩
  · show b ∈ frs (envOfC qual scope s.heap.objs.size f cd :: outer)
    unfold frs
    rw [List.filterMap_cons]
    exact List.mem_cons_of_mem _ hb
  · have m : b ∈ frs (envOfC qual scope s.heap.objs.size f cd :: outer) := m
    unfold frs at m
    rw [List.filterMap_cons] at m
    rcases List.mem_cons.mp m with z | z
    · exact absurd (Heap.lt_size q) (by rw [z]; exact Nat.lt_irrefl _)
    · exact z
  · have hsz2 : s.heap.objs.size ≤ s2.heap.objs.size := I2.sz
    have nTa : T' ≠ a := fun z => absurd (Heap.lt_size ge) (by rw [← z]; exact Nat.not_lt.mpr lf.new)
    exact ⟨_, _, T', oT', ts', lf.obj, rfl, rfl, rfl, by simp, nTa, gT', gt', g3', del_same, I3.hok.fresh lf.new, na, Nat.le_trans hsz2 lf.new⟩
end
section
variable {X : Cx} {CX : CXT} {k m : Nat} {f C R : Addr} {fd : FuncData} {ps : List Str} {sp : Sp} {E : XK} {p pos : Pos} {e : Expr} {es : List Expr} {t : TA} {bm : List Value}
theorem run_excN {pins : List (Addr × Obj)} {σ : St} {H : Hp} {s : Shared} {Q : VK} {us : List Value} {vs : List V} (M : ExcC X.K C f bm) (F : FnOk X.prog X.w X.K X.mg X.base CX k f fd ps sp) (hr : Room (k + 1) X.A) (hb : Binds X.K fd ps [])
    (hx : Passes CX X E) (I : Inv X pins σ H s) (r : Vals vs us) (hz : vs.length ≤ sizeLine)
    (h : ∀ x, H x = none → s.heap.objs.size ≤ x → sp (.ref x :: vs) (upd H x (excO x C none)) (fun v H2 => v = .non ∧ Q (.ref x) H2) E) :
    wpAny (model X.prog X.w) X.A (call (.ref C) us) (EP X pins σ Q) X.xe s := by
  obtain ⟨nm, q, N, bs, hdct, sn, sub, ab, col, dd, k0, k1, k2, k3, k5, ho⟩ := M.obj
  obtain ⟨oI, hoI, hcI⟩ := M.fn
  have hsz : us.length ≤ sizeLine := by rw [← r.length]; exact hz
  refine exc_make (h := s.heap) (g := s.gens) (d := s.drawn) (t := s.toks) (os := s.os) M.bm_ok (I.kIn C _ ho) (PySem.W.looks_findIn I.kIn M.init) (I.kIn f _ hoI) hcI (fun h' kp hget => ?_) hsz
  have hfr : H (s.heap.objs.size + 1) = none := I.hok.fresh (Nat.le_succ _)
  have hq := h (s.heap.objs.size + 1) hfr (Nat.le_succ _)
  have I2 : Inv X pins σ (upd H (s.heap.objs.size + 1) (excO (s.heap.objs.size + 1) C none)) { s with heap := h' } := I.laid (t' := s.toks) kp (Nat.le_succ _) (excO_ok hget)
  have r2 : Vals (V.ref (s.heap.objs.size + 1) :: vs) (Value.ref (s.heap.objs.size + 1) :: us) := .cons rfl r
  have hl : (Value.ref (s.heap.objs.size + 1) :: us ++ []).length = ps.length := by
    rw [List.append_nil, ← r2.length]
    exact F.len _ _ _ _ hq
  refine wpAny_call (codeAny_mono (F.run _ X.stack _ _ ⟨Value.ref (s.heap.objs.size + 1) :: us, []⟩ (Value.ref (s.heap.objs.size + 1) :: us) _ _ E (hr.make C us []) (I2.env0.make C us []) (by
    have := hb { s with heap := h' } (Value.ref (s.heap.objs.size + 1) :: us) I2.kIn hl
    rwa [List.append_nil] at this) r2 hq) fun r s' hq' => ?_)
  cases r with
  | error e => exact hx pins σ _ _ e s' I2 hq'
  | ok fl =>
    cases fl with
    | ret u =>
      obtain ⟨v, H', I3, rv, ev, q3⟩ := I2.after hq'
      subst ev
      exact ⟨rv, ⟨V.ref (s.heap.objs.size + 1), H', I3, rfl, q3⟩⟩
    | next => exact False.elim hq'
    | brk => exact False.elim hq'
    | cont => exact False.elim hq'
end
def tEx1N (n : Nat) (C : Addr) (f : Str) (t : TA) : TE := fun σ H Q => t σ H fun vs H1 => ∃ v, vs = [v] ∧ ∀ z H', n ≤ z → H1 z = none → Same H1 H' → ExcAt H' z C [(f, v)] → Q (.ref z) H'
def tEx2N (n : Nat) (C : Addr) (f g : Str) (t : TA) : TE := fun σ H Q => t σ H fun vs H1 => ∃ v y, vs = [v, y] ∧ ∀ z H', n ≤ z → H1 z = none → Same H1 H' → ExcAt H' z C (putF g y [(f, v)]) → Q (.ref z) H'
section
variable {CX : CXT} {X : Cx} {k m : Nat} {C R : Addr} {E : XK} {x qual f g : Str} {st : Stmt} {p pos : Pos} {e : Expr} {es : List Expr} {t : TA}
theorem pe_ex1N (M : HasExc X.K X.mg x qual st C R) (F : InitOk X.prog X.w X.K X.mg X.base CX qual st ["self", f] (spI1 C f)) (hr : Room m X.A) (ha : PA X (e :: es) t) (hk : 2 ≤ m := by decide) (hx : Passes CX X E := by exact pass0) (hg : Gl X x := by rfl)
    (hdb : (x == ("__debug__" : Str)) = false := by decide) (he : starEach (e :: es) X.env = (false, eval e X.env) :: starEach es X.env := by rfl) (hpl : (backTo pos (starEach es X.env)).any (·.1) = false := by rfl) :
    PE X (.Call (.Name x p) (e :: es) [] pos) (tEx1N X.s₀.heap.objs.size C f t) := by
  intro pins s σ H Q I h
  obtain ⟨fa, fd, C1, Fn⟩ := M.ex
  obtain ⟨ok, hb⟩ := F fa fd Fn
  refine wpAny_Call_Name_kw (ld_glob I hg M.gl ?_ hdb)
  refine PySem.W.callWith_K (h₀ := X.base) I.ok.mod.kin C1.kp (thn (ha pos pins s σ H _ I h) fun us s1 ⟨vs, H1, I1, r, v, ev, q⟩ => ⟨I1.kIn, ?_⟩) he hpl
  subst ev
  refine run_excN C1 ok (hr.mono hk) hb hx I1 r (small_line (show (_ : Nat) ≤ _ by simp only [List.length_cons, List.length_nil]; decide)) fun z hz hn => ⟨z, v, rfl, upd_same, fun dx hd => ⟨rfl, q z _ (Nat.le_trans I1.sz hn) hz (fun b u eb => ?_) ?_⟩⟩
  · have hzx : dx ≠ z := fun q => by rw [q, upd_same] at hd; cases hd
    rw [upd_ne hzx] at hd
    rw [upd_ne (ne_of_none eb hz), upd_ne (ne_of_none eb hd), upd_ne (ne_of_none eb hz)]
    exact eb
  · have hzx : dx ≠ z := fun q => by rw [q, upd_same] at hd; cases hd
    exact .inr ⟨dx, upd_same, by rw [upd_ne hzx, upd_same], hzx⟩
theorem pe_ex2N (M : HasExc X.K X.mg x qual st C R) (F : InitOk X.prog X.w X.K X.mg X.base CX qual st ["self", f, g] (spI2 C f g)) (hr : Room m X.A) (ha : PA X (e :: es) t) (hk : 2 ≤ m := by decide) (hx : Passes CX X E := by exact pass0) (hg : Gl X x := by rfl)
    (hdb : (x == ("__debug__" : Str)) = false := by decide) (he : starEach (e :: es) X.env = (false, eval e X.env) :: starEach es X.env := by rfl) (hpl : (backTo pos (starEach es X.env)).any (·.1) = false := by rfl) :
    PE X (.Call (.Name x p) (e :: es) [] pos) (tEx2N X.s₀.heap.objs.size C f g t) := by
  intro pins s σ H Q I h
  obtain ⟨fa, fd, C1, Fn⟩ := M.ex
  obtain ⟨ok, hb⟩ := F fa fd Fn
  refine wpAny_Call_Name_kw (ld_glob I hg M.gl ?_ hdb)
  refine PySem.W.callWith_K (h₀ := X.base) I.ok.mod.kin C1.kp (thn (ha pos pins s σ H _ I h) fun us s1 ⟨vs, H1, I1, r, v, y, ev, q⟩ => ⟨I1.kIn, ?_⟩) he hpl
  subst ev
  refine run_excN C1 ok (hr.mono hk) hb hx I1 r (small_line (show (_ : Nat) ≤ _ by simp only [List.length_cons, List.length_nil]; decide)) fun z hz hn => ⟨z, v, y, rfl, upd_same, fun dx hd => ⟨rfl, q z _ (Nat.le_trans I1.sz hn) hz (fun b u eb => ?_) ?_⟩⟩
  · have hzx : dx ≠ z := fun q => by rw [q, upd_same] at hd; cases hd
    rw [upd_ne hzx] at hd
    rw [upd_ne (ne_of_none eb hd), upd_ne (ne_of_none eb hz), upd_ne (ne_of_none eb hd), upd_ne (ne_of_none eb hz)]
    exact eb
  · have hzx : dx ≠ z := fun q => by rw [q, upd_same] at hd; cases hd
    exact .inr ⟨dx, by rw [upd_ne (Ne.symm hzx), upd_same], upd_same, hzx⟩
end
theorem go_raise {n : Nat} {H0 H1 H' : Hp} {E : XK} {C z : Addr} {fs : List (Str × V)} (hfs : fs ≠ []) (hn : n ≤ z) (hz : H1 z = none) (h0 : H0 z = none) (s : Same H1 H') (e : ExcAt H' z C fs) (k : ∀ dx H2, Same H1 H2 → H2 dx = some (dctO dx fs) → E (.ref C) (some dx) H2) :
    ∃ a dx, V.ref z = .ref a ∧ n ≤ a ∧ H0 a = none ∧ H' a = some (excO a C dx) ∧ E (.ref C) dx (del H' a) := by
  rcases e with ⟨w, _⟩ | ⟨dx, a, b, c⟩
  · exact absurd w hfs
  · exact ⟨z, some dx, rfl, hn, h0, a, k dx _ (fun b u q => by rw [del_ne (ne_of_none q hz)]; exact s b u q) (by rw [del_ne c]; exact b)⟩
section
variable {P : Program} {w : World} {K : PySem.W.Frag} {mg : Str → Option Value} {base : Heap} {k : Nat} {x : Str} {ps : List Str} {sp : Sp}
theorem def_ofX {st : Stmt} {N : List Str} (h : HasDef K mg x st) (S : FnScope N ps (defScope st)) (len : ∀ vs H Q E, sp vs H Q E → vs.length = ps.length)
    (hb : ∀ (kV doc pm : Value) (an : Option Addr) (cdv ct : Value) (us : List Value), us.length = ps.length → bindArgs (PySem.W.fnOf x x (defArgs st) (defBody st) (defScope st) .none kV doc pm an cdv ct) ⟨us, []⟩ = pure (ps.zip us))
    (hbody : ∀ (f : Addr) (cdv : Value) (A : Around) (outer : List Env) (s : Shared) (H : Hp) (vs : List V) (Q : VK) (E : XK), Room k (A.deeper (envOfC x (defScope st) s.heap.objs.size f cdv)) → sp vs H Q E →
      ∃ t, PSs (cxOf (CX1 P w) P w K mg base N x (defScope st) f cdv A outer s H E) (defBody st) t ∧ t { nx := fun _ H' => Q .non H', rt := Q } (start N vs) H) : Def P w K mg base (CX1 P w) (k + 1) x ps sp := by
  obtain ⟨f, fd, F, m⟩ := h
  refine ⟨f, fd, ?_, m, F.kp, F.binds hb⟩
  obtain ⟨oc, od, kV, doc, pm, an, cdv, ct, osl, rfl, lk, hcd⟩ := F.ex
  exact fn_of lk hcd S len fun A outer s H vs Q E hr hsp => hbody f cdv A outer s H vs Q E hr hsp
end
theorem nsFind_drop {es : Array DictEntry} {name x : Str} {i : Nat} (h : x ≠ name) (hi : es.findIdx? (·.key.isStr name) = some i) : nsFind (es.eraseIdxIfInBounds i) x = nsFind es x := by
  obtain ⟨l⟩ := es
  have h1 := find?_drop (·.key.isStr x) (·.key.isStr name) (isStr_other h) l
  rw [List.findIdx?_toArray] at hi
  simp only [hi] at h1
  have e1 : (l.toArray.eraseIdxIfInBounds i).find? (·.key.isStr x) = l.toArray.find? (·.key.isStr x) := by simpa using h1
  unfold nsFind findBy
  rw [e1]
section
variable {M : Model} {A : Around} {E : Value → Shared → Prop} {s : Shared}
theorem wpAny_nsDelK {a : Addr} {m} {name : Str} {Q : Bool → Shared → Prop} (hn : s.heap.Ns a m)
    (hQ : ∀ h' m', h'.Ns a m' → (∀ x, x ≠ name → m' x = m x) → Heap.SameBut a s.heap h' → Q (m name).isSome { s with heap := h' }) : wpAny M A (nsDel a name) Q E s := by
  obtain ⟨o, es, ep, ho, hd, hk, hm⟩ := id hn
  have hany : es.any (·.refKey) = false := by
    rw [Array.any_eq_false']; intro e he; obtain ⟨n, t, h⟩ := hk e he; simp [DictEntry.refKey, h]
  have hsome : (m name).isSome = es.any (·.key.isStr name) := by
    rw [← hm name]; simp only [nsFind, findBy, Option.isSome_map]
    rw [Bool.eq_iff_iff]; simp only [Array.find?_isSome, Array.any_eq_true]
    constructor
    · rintro ⟨x, hx, hp⟩; obtain ⟨i, hi, rfl⟩ := Array.mem_iff_getElem.mp hx; exact ⟨i, hi, hp⟩
    · rintro ⟨i, hi, hp⟩; exact ⟨_, Array.getElem_mem hi, hp⟩
  have hhas : nsHas name o = pure (es.any (·.key.isStr name)) := by
    rw [nsHas_eq]; unfold nsHasByArray; rw [hd]
    show (if (es.any fun x => x.key.isStr name) = true then _ else _) = _
    generalize (es.any fun x => x.key.isStr name) = b
    cases b <;> simp [hany]
  unfold nsDel
  refine wpAny_bind (wpAny_loadPart ho ?_)
  rw [hhas]
  refine wpAny_bind (wpAny_pure ?_)
  rw [← hsome]
  cases hmn : (m name).isSome
  · have := hQ s.heap m hn (fun _ _ => rfl) (.refl ..)
    rw [hmn] at this
    exact wpAny_pure this
  · refine wpAny_bind (wpAny_updatePart ho (wpAny_pure ?_))
    have key : ∃ m', (s.heap.update a (Obj.dropName name)).Ns a m' ∧ ∀ x, x ≠ name → m' x = m x := by
      obtain ⟨cl, d, dt, sl⟩ := o
      subst hd
      cases hi : es.findIdx? (·.key.isStr name) with
      | some i => exact ⟨_, ⟨_, _, ep + 1, Heap.get?_update_self _ ho (by simp only [Obj.dropName_eq, Obj.dropNameByArray, hi] <;> rfl), (by simp only [Obj.dropName_eq, Obj.dropNameByArray, hi] <;> rfl), hk.erase i, fun _ => rfl⟩, fun x hx => (nsFind_drop hx hi).trans (hm x)⟩
      | none => exact ⟨_, ⟨_, _, ep, Heap.get?_update_self _ ho (by simp only [Obj.dropName_eq, Obj.dropNameByArray, hi] <;> rfl), (by simp only [Obj.dropName_eq, Obj.dropNameByArray, hi] <;> rfl), hk, fun _ => rfl⟩, fun x hx => hm x⟩
    obtain ⟨m', hm', hx'⟩ := key
    have := hQ _ m' hm' hx' (Heap.SameBut.update ..)
    rw [hmn] at this
    exact this
end
section
variable {X : Cx} {pins : List (Addr × Obj)} {σ : St} {H : Hp} {s : Shared}
theorem name_goes {M : Model} {A : Around} {E : Value → Shared → Prop} {i : Nat} {n : Str} {pos : Pos} {Q : Unit → Shared → Prop} (I : Inv X pins σ H s) (hN : X.N.Nodup) (hi : X.N[i]? = some n) (hl : X.env.scope.names.lookup n = some .local)
    (h : ∀ s', Inv X pins (σ.set i none) H s' → Q () s') : wpAny M A (do bindName X.env n .none; unbindBehindTheSuite X.env n pos) Q E s := by
  have hp : (X.env.scope.kind == .class || (X.env.scope.kind == .module && X.env.locals != X.env.globals)) = false := by rw [I.ok.kind]; rfl
  have hl' : X.env.kindOf n = some .local := hl
  have hiσ : i < σ.length := by rw [I.len]; exact (List.getElem?_eq_some_iff.mp hi).1
  refine wpAny_bind (wpAny_bindName (store_ok (v := V.non) (u := Value.none) I hN hi (.inl hl) rfl (fun s1 I1 => ?_) (.inr hl)))
  unfold unbindBehindTheSuite
  refine wpAny_onRaise ?_
  unfold unbindName
  refine wpAny_bind (wpAny_point (wpAny_bind ?_))
  unfold deleteName
  simp only [hl', hp]
  rw [if_neg (by decide)]
  obtain ⟨m, hn, hm⟩ := id I1.loc
  have hmn : (m n).isSome = true := by
    obtain ⟨u, _, q⟩ := hm i n .non hi (by rw [List.getElem?_set_self hiσ]) (.inl hl)
    rcases q with ⟨_, e⟩ | ⟨k, _⟩
    · rw [e]; rfl
    · rw [hl'] at k
      rcases k with k | k <;> cases k
  have cne := I1.cne
  refine wpAny_bind (wpAny_nsDelK hn fun h₂ m₂ hn₂ hk hs => ?_)
  rw [hmn]
  simp only [if_true, Bool.not_true, Bool.false_eq_true, if_false]
  refine wpAny_pure (wpAny_point (h _ ?_))
  obtain ⟨oL, _, _, hoL, _⟩ := id hn
  refine ⟨I1.ok, I1.os, I1.bare, ⟨fun b o e n hb hx => ?_, fun b o e n hb hx => ?_, I1.base.free, fun b o e hx => ?_, I1.base.tups, I1.base.frzs, I1.base.tbls⟩, ⟨_, hn₂, fun j y v' e1 e2 e3 => ?_⟩, fun y c e => ?_, I1.free, I1.freeC, fun p hp => ?_, fun b ob e => ?_, by rw [List.length_set]; exact I.len⟩
  · exact (hs.2 b (Nat.ne_of_lt (Nat.lt_of_lt_of_le (Heap.lt_size e) I1.ok.above))).trans (I1.base.keep b o e n hb hx)
  · obtain ⟨sl, e1⟩ := I1.base.slot b o e n hb hx
    exact ⟨sl, (hs.2 b (Nat.ne_of_lt (Nat.lt_of_lt_of_le (Heap.lt_size e) I1.ok.above))).trans e1⟩
  · obtain ⟨o', e1⟩ := I1.base.there b o e hx
    exact ⟨o', (hs.2 b (Nat.ne_of_lt (Nat.lt_of_lt_of_le (Heap.lt_size e) I1.ok.above))).trans e1⟩
  · by_cases hj : j = i
    · subst hj
      rw [List.getElem?_set_self hiσ] at e2
      cases e2
    · rw [List.getElem?_set_ne (Ne.symm hj)] at e2
      obtain ⟨u', r', q⟩ := hm j y v' e1 (by rw [List.getElem?_set_ne (Ne.symm hj)]; exact e2) e3
      refine ⟨u', r', ?_⟩
      rcases q with ⟨k, e⟩ | ⟨k, c, e, z⟩
      · refine .inl ⟨k, ?_⟩
        have : y ≠ n := fun e => hj (nodup_ix hN e1 (e ▸ hi))
        rw [hk y this]
        exact e
      · exact .inr ⟨k, c, e, z.sameBut hs (cne y c e)⟩
  · obtain ⟨w', z⟩ := I1.cell y c e
    exact ⟨w', z.sameBut hs (cne y c e)⟩
  · obtain ⟨e, n, ne, nf, d⟩ := I1.pin p hp
    exact ⟨(hs.2 p.1 ne).trans e, n, ne, nf, d⟩
  · refine (I1.hok b ob e).stay (fun c w' hc q => (hs.2 c ?_).trans q) (fun _ q => q) fun _ _ q => q
    rintro rfl
    rcases hc with rfl | hc
    · rw [I1.free] at e; cases e
    · rw [I1.free] at hc; cases hc
end
section
variable {M : Model} {A : Around} {E : Value → Shared → Prop} {s : Shared} {base : Heap} {env : Env} {outer : List Env} {L e : Addr} {oe : Obj} {vs : Array Value}
theorem note_next {Q : Unit → Shared → Prop} {T0 : Addr} {o0 : Obj} {ts0 : Array Value} (hfr : A.frames = some (env :: outer)) (hl : s.heap.FunFrames base (env :: outer)) (hf : env.frame = some L) (he : s.heap.get? e = some oe) (hd : oe.data = .fields vs) (h1 : vs[1]? = some (.ref T0))
    (hT : s.heap.get? T0 = some o0) (hdT : o0.data = .fields ts0) (h3 : ts0[3]? = some .none) (hTe : T0 ≠ e)
    (h : ∀ h' T, Left (frs (env :: outer)) s.heap h' e oe vs T → Q () { s with heap := h' }) : wpAny M A (noteFrame (.ref e) env) (fun _ s' => wpAny M A (setFlight (.ref e) none) Q E s') E s := by
  unfold noteFrame
  simp only [hf]
  refine wpAny_bind (wpAny_field he hd h1 ?_)
  rw [if_pos (show (Value.ref T0 != Value.none) = true from by simp)]
  refine wpAny_bind (wpAny_field hT hdT h3 ?_)
  rw [if_neg (show ¬ ((Value.none == rawInt L) = true) from by simp [rawInt])]
  refine wpAny_bind (wpAny_setField hT hdT (Array.getElem?_eq_some_iff.mp h3).1 ?_)
  have hoth : ∀ b, b ≠ T0 → (s.heap.update T0 (Obj.mapFields (·.setIfInBounds 3 Value.none))).get? b = s.heap.get? b := fun b hb => Heap.get?_update_other _ _ (Ne.symm hb)
  have hno : ∀ b o, s.heap.get? b = some o → (∀ z, o.data ≠ .fields z) → b ≠ T0 := fun b o z hn q => by
    rw [q, hT] at z; cases z
    exact hn ts0 hdT
  have hl2 : (s.heap.update T0 (Obj.mapFields (·.setIfInBounds 3 Value.none))).FunFrames base (env :: outer) := hl.of_keeps fun b o z hn => ⟨o, (hoth b (hno b o z hn)).trans z, rfl⟩
  refine leave_tail (s := { s with heap := s.heap.update T0 (Obj.mapFields (·.setIfInBounds 3 Value.none)) }) hfr hl2 hf ((hoth e (Ne.symm hTe)).trans he) hd (Array.getElem?_eq_some_iff.mp h1).1 fun h' T lf => h h' T ⟨fun b o hb hn z hz => lf.keep b o hb hn ((hoth b (hz T0 h1)).trans z) hz, fun b o hb z => ?_, ?_, lf.ent, lf.obj⟩
  · obtain ⟨_, o', ho', hn'⟩ := hl.mem hb
    rw [z] at ho'; cases ho'
    exact lf.slot b o hb ((hoth b (hno b o z hn')).trans z)
  · have := lf.new
    rw [Heap.size_update] at this
    exact this
end
abbrev Cx.pinned (X : Cx) (pins : List (Addr × Obj)) : Cx := { X with pn := X.pn ++ pins }
section
variable {X : Cx} {pins pins' : List (Addr × Obj)} {σ : St} {H : Hp} {s : Shared} {a : Addr}
theorem Inv.pinC (I : Inv X pins σ H s) : Inv (X.pinned pins) [] σ H s :=
  ⟨⟨I.ok.mod, I.ok.kind, I.ok.glob, I.ok.blt, I.ok.above, I.ok.inj, I.ok.has, I.ok.cab, I.ok.hd, I.ok.frames, I.ok.stk, I.ok.exf, I.ok.bs, I.ok.bsz, I.ok.noex, I.ok.exfs, I.ok.funs, I.ok.frf⟩, I.os, I.bare, I.base, I.loc, I.cell, I.free, I.freeC, fun p hp => I.pin p (by
    have hp : p ∈ (X.pn ++ pins) ++ [] := hp
    rw [List.append_nil] at hp
    exact hp), I.hok, I.len⟩
theorem Inv.unpinC (I : Inv (X.pinned pins) pins' σ H s) : Inv X pins σ H s :=
  ⟨⟨I.ok.mod, I.ok.kind, I.ok.glob, I.ok.blt, I.ok.above, I.ok.inj, I.ok.has, I.ok.cab, I.ok.hd, I.ok.frames, I.ok.stk, I.ok.exf, I.ok.bs, I.ok.bsz, I.ok.noex, I.ok.exfs, I.ok.funs, I.ok.frf⟩, I.os, I.bare, I.base, I.loc, I.cell, I.free, I.freeC, fun p hp => I.pin p (List.mem_append_left _ hp), I.hok, I.len⟩
abbrev Cx.hand (X : Cx) (a : Addr) : Cx := { X with A := X.A.mark (some (.ref a)), calm := false, xe := fun _ _ => False }
theorem Inv.hand (I : Inv X pins σ H s) : Inv (X.hand a) pins σ H s :=
  ⟨⟨I.ok.mod, I.ok.kind, I.ok.glob, I.ok.blt, I.ok.above, I.ok.inj, I.ok.has, I.ok.cab, (fun h => by cases h), I.ok.frames, I.ok.stk, I.ok.exf, I.ok.bs, I.ok.bsz, I.ok.noex, I.ok.exfs, I.ok.funs, I.ok.frf⟩, I.os, I.bare, I.base, I.loc, I.cell, I.free, I.freeC, I.pin, I.hok, I.len⟩
theorem Inv.unhand (ok : X.Ok) (I : Inv (X.hand a) pins σ H s) : Inv X pins σ H s :=
  ⟨ok, I.os, I.bare, I.base, I.loc, I.cell, I.free, I.freeC, I.pin, I.hok, I.len⟩
end
abbrev Cx.tr (X : Cx) (pins : List (Addr × Obj)) (EX : St → XK) : Cx := (X.pinned pins).wish fun ev s' => ∃ pins' σ' H1 s1, Inv (X.pinned pins) pins' σ' H1 s1 ∧ CX1 X.prog X.w X.stack H1 s1 (EX σ') ev s'
def tCallx (EX : St → XK) (sp : Sp) (t : TA) : TE := fun σ H Q => t σ H fun vs H1 => sp vs H1 Q (EX σ)
section
variable {X : Cx} {pins : List (Addr × Obj)} {EX : St → XK} {k m : Nat} {x : Str} {ps : List Str} {sp : Sp} {p pos : Pos} {e : Expr} {es : List Expr} {t : TA}
theorem pe_defx (D : Def X.prog X.w X.K X.mg X.base (CX1 X.prog X.w) k x ps sp) (hr : Room m X.A) (ha : PA (X.tr pins EX) (e :: es) t) (hk : k ≤ m := by decide) (hg : Gl (X.tr pins EX) x := by rfl)
    (hdb : (x == ("__debug__" : Str)) = false := by decide) (he : starEach (e :: es) X.env = (false, eval e X.env) :: starEach es X.env := by rfl) (hpl : (backTo pos (starEach es X.env)).any (·.1) = false := by rfl) :
    PE (X.tr pins EX) (.Call (.Name x p) (e :: es) [] pos) (tCallx EX sp t) := by
  intro pins' s σ H Q I h
  obtain ⟨f, fd, F, hm, kp, hb⟩ := D.ex
  refine wpAny_Call_Name_kw (ld_glob I hg hm ?_ hdb)
  refine PySem.W.callWith_K (h₀ := X.base) I.ok.mod.kin kp (thn (ha pos pins' s σ H _ I h) fun us s1 ⟨vs, H1, I1, r, q⟩ => ⟨I1.kIn, ?_⟩) he hpl
  have hl : (us ++ []).length = ps.length := by rw [List.append_nil, ← r.length]; exact F.len _ _ _ _ q
  refine wpAny_call (codeAny_mono (F.run X.A X.stack s1 H1 ⟨us, []⟩ us vs Q (EX σ) (hr.mono hk) I1.env0 (by
    have := hb s1 us I1.kIn hl
    rwa [List.append_nil] at this) r q) fun r s' hq => ?_)
  cases r with
  | error e => exact ⟨pins', σ, H1, s1, I1.unwish, hq⟩
  | ok fl =>
    cases fl with
    | ret u => exact I1.after hq
    | next => exact False.elim hq
    | brk => exact False.elim hq
    | cont => exact False.elim hq
end
def excT (a C : Addr) (dx : Option Addr) : HO := .ext fun h => ∃ oe vs, h.get? a = some oe ∧ oe.cls = .ref C ∧ oe.dict = dx ∧ oe.data = .fields vs
theorem excT_ok {P : Program} {w : World} {H : Hp} {h : Heap} {a C : Addr} {dx : Option Addr} {oe : Obj} {vs : Array Value} (q : h.get? a = some oe) (hc : oe.cls = .ref C) (hd : oe.dict = dx) (hf : oe.data = .fields vs) : ObjOk P w H h a (excT a C dx) :=
  ⟨⟨oe, vs, q, hc, hd, hf⟩, ⟨_, q⟩, fun h1 h2 ⟨oe, vs, z, r⟩ k => ⟨oe, vs, k _ z, r⟩⟩
def ExcT (H : Hp) (x C : Addr) (fs : List (Str × V)) : Prop := (fs = [] ∧ H x = some (excT x C none)) ∨ ∃ dx, H x = some (excT x C (some dx)) ∧ H dx = some (dctO dx fs) ∧ dx ≠ x
theorem ExcT.same {H H' : Hp} {x C : Addr} {fs : List (Str × V)} (e : Same H H') (h : ExcT H x C fs) : ExcT H' x C fs := by
  rcases h with ⟨a, b⟩ | ⟨dx, a, b, c⟩
  · exact .inl ⟨a, e _ _ b⟩
  · exact .inr ⟨dx, e _ _ a, e _ _ b, c⟩
theorem ExcT.mk {H : Hp} {a C dx : Addr} {fs : List (Str × V)} (hd : H dx = some (dctO dx fs)) (ha : H a = none) : ExcT (upd H a (excT a C (some dx))) a C fs :=
  .inr ⟨dx, upd_same, by rw [upd_ne (ne_of_none hd ha)]; exact hd, ne_of_none hd ha⟩
structure Caught (X : Cx) (pins : List (Addr × Obj)) (σ : St) (H : Hp) (s : Shared) (a C : Addr) (dx : Option Addr) : Prop where
  I : Inv X pins σ H s
  ha : H a = some (excT a C dx)
  tb : ∃ T oe vs oT ts, s.heap.get? a = some oe ∧ oe.data = .fields vs ∧ vs[1]? = some (.ref T) ∧ s.heap.get? T = some oT ∧ oT.data = .fields ts ∧ 3 < ts.size ∧ H T = none ∧ T ≠ X.env.locals ∧ (T ∈ X.ex ∨ X.s₀.heap.objs.size ≤ T) ∧ (∀ x c, X.env.cells.lookup x = some c → c ≠ T) ∧ ∀ p ∈ X.pn ++ pins, p.1 ≠ T
abbrev THd := Ends → Addr → Addr → Option Addr → St → Hp → Prop
def PH (X : Cx) (hs : List ExceptHandler) (t : THd) : Prop :=
  ∀ (pins : List (Addr × Obj)) (s : Shared) (σ : St) (H : Hp) (C a : Addr) (dx : Option Addr) (D : Ends), Caught X pins σ H s a C dx → t D C a dx σ H → wpAny (model X.prog X.w) X.A (handleBy (.ref a) X.env hs) (SP X pins D) X.xe s
def Ends.forget (D : Ends) (i : Nat) : Ends := ⟨fun σ H => D.nx (σ.set i none) H, D.rt, fun σ H => D.bk (σ.set i none) H, fun σ H => D.ct (σ.set i none) H⟩
def hNil : THd := fun _ _ _ _ _ _ => False
def hAs (K : PySem.W.Frag) (d : Addr) (i : Nat) (th : Addr → TS) (tr : THd) : THd := fun D C a dx σ H => ∃ b, PySem.W.exmOne K (.ref C) (.ref d) = some b ∧ if b = true then th a (D.forget i) (σ.set i (some (.ref a))) H else tr D C a dx σ H
section
variable {X : Cx} {x n : Str} {d : Addr} {i : Nat} {b₀ : Stmt} {suite : List Stmt} {rest : List ExceptHandler} {th : Addr → TS} {tr : THd} {p pos : Pos}
theorem ph_nil : PH X [] hNil := fun _ _ _ _ _ _ _ _ _ h => h.elim
theorem Caught.lit {pins : List (Addr × Obj)} {σ : St} {H : Hp} {s : Shared} {a C : Addr} {dx : Option Addr} {A : Around} {E : Value → Shared → Prop} {Q : Unit → Shared → Prop} (c : Caught X pins σ H s a C dx) (h : ∀ s', Inv X pins σ H s' → Q () s') : wpAny (model X.prog X.w) A (setFlight (.ref a) none) Q E s := by
  obtain ⟨T, oe, vs, oT, ts, ga, gf, g1, gT, gt, g3, hT, n1, n2, n3, n4⟩ := c.tb
  exact wpAny_setFlight_none ga gf g1 gT gt g3 (h _ (c.I.turned (t' := s.toks) (fun b o hb e => (Heap.get?_update_other _ _ (Ne.symm hb)).trans e) hT n1 n2 n3 n4))
theorem exc_instT {pins : List (Addr × Obj)} {σ : St} {H : Hp} {s : Shared} {a C : Addr} {fs : List (Str × V)} (I : Inv X pins σ H s) (h : ExcT H a C fs) : ∃ oe odo, PySem.W.InstAt s.heap a oe C odo := by
  rcases h with ⟨_, b⟩ | ⟨dx, a', b, _⟩
  · obtain ⟨⟨oe, vs, ge, gc, gd, gf⟩, _, _⟩ : ObjOk X.prog X.w H s.heap a (excT a C none) := I.hok a _ b
    exact ⟨oe, none, ge, gc, exc_notCls gf, by rw [gd]; trivial⟩
  · obtain ⟨⟨oe, vs, ge, gc, gd, gf⟩, _, _⟩ : ObjOk X.prog X.w H s.heap a (excT a C (some dx)) := I.hok a _ a'
    obtain ⟨⟨mA, nn, _⟩, _, _⟩ : ObjOk X.prog X.w H s.heap dx (dctO dx fs) := I.hok dx _ b
    obtain ⟨od, ho, _⟩ := lookIn_ns nn
    exact ⟨oe, some od, ge, gc, exc_notCls gf, by rw [gd]; exact ho⟩
theorem Caught.type {pins : List (Addr × Obj)} {σ : St} {H : Hp} {s : Shared} {a C : Addr} {dx : Option Addr} (c : Caught X pins σ H s a C dx) : PySem.W.Looks (model X.prog X.w) s.heap (typeOf (.ref a)) (.ref C) := by
  obtain ⟨⟨oe, vs, ge, gc, gd, gf⟩, _, _⟩ : ObjOk X.prog X.w H s.heap a (excT a C dx) := c.I.hok a _ c.ha
  exact gc ▸ (PySem.W.Looks.ld ge).andThen .now
theorem ph_as (hm : X.mg x = some (.ref d)) (hs : ∀ a, PSs (X.hand a) (b₀ :: suite) (th a)) (hrest : PH X rest tr) (hN : X.N.Nodup) (hi : X.N[i]? = some n) (hl : X.env.scope.names.lookup n = some .local) (hg : Gl X x := by rfl)
    (hdb : (x == ("__debug__" : Str)) = false := by decide) : PH X (.ExceptHandler (some (.Name x p)) (some n) (b₀ :: suite) pos :: rest) (hAs X.K d i th tr) := by
  intro pins s σ H C a dx D c h
  obtain ⟨b, hb, h⟩ := h
  refine wpAny_handleBy_cons (codeAny_handlers_test (ld_glob (X := X.hand a) c.I.hand hg hm ?_ hdb)) (by intro q; cases q)
  refine (PySem.W.exm_one (M := model X.prog X.w) c.I.kIn c.type hb).here ?_
  cases b with
  | false =>
    rw [if_neg Bool.false_ne_true] at h
    exact hrest pins s σ H C a dx D c h
  | true =>
    rw [if_pos rfl] at h
    show codeAny _ _ _ _ _
    refine codeAny_handlers_suite_as (c.lit fun s1 I1 => store_ok I1 hN hi (.inl hl) (v := V.ref a) rfl (fun s2 I2 => ?_) (.inr hl))
    refine wpAny_mono (hs a pins s2 (σ.set i (some (.ref a))) H (D.forget i) I2.hand h) (fun f s3 q => ?_) fun _ _ z => z.elim
    show wpAny (model X.prog X.w) X.A (do bindName X.env n .none; unbindBehindTheSuite X.env n pos) _ _ s3
    cases f with
    | next =>
      obtain ⟨σ', H', I', q⟩ := q
      exact name_goes (I'.unhand c.I.ok) hN hi hl fun s4 I4 => ⟨_, H', I4, q⟩
    | brk =>
      obtain ⟨σ', H', I', q⟩ := q
      exact name_goes (I'.unhand c.I.ok) hN hi hl fun s4 I4 => ⟨_, H', I4, q⟩
    | cont =>
      obtain ⟨σ', H', I', q⟩ := q
      exact name_goes (I'.unhand c.I.ok) hN hi hl fun s4 I4 => ⟨_, H', I4, q⟩
    | ret u =>
      obtain ⟨v, σ', H', I', r, q⟩ := q
      exact name_goes (I'.unhand c.I.ok) hN hi hl fun s4 I4 => ⟨v, _, H', I4, r, q⟩
end
def tTry (tb : List (Addr × Obj) → (St → XK) → TS) (th : THd) : TS := fun D σ H => ∀ pins, tb pins (fun σ' cv dx H' => ∃ C, cv = .ref C ∧ ∀ a, H' a = none → th D C a dx σ' (upd H' a (excT a C dx))) D σ H
section
variable {X : Cx} {body : List Stmt} {h₀ : ExceptHandler} {hs : List ExceptHandler} {tb : List (Addr × Obj) → (St → XK) → TS} {th : THd} {pos : Pos}
theorem ps_try (hb : ∀ pins EX, PSs (X.tr pins EX) body (tb pins EX)) (hh : PH X (h₀ :: hs) th) (hst : X.stack = X.env :: X.outer := by rfl) (hf : X.env.frame = some X.env.locals := by rfl) : PS X (.Try body (h₀ :: hs) [] [] pos) (tTry tb th) := by
  intro pins s σ H D I h
  refine wpAny_Try_except (wpAny_mono (hb pins _ [] s σ H D (I.pinC.wish _) (h pins)) (fun f s1 q => ?_) fun ev s1 q => ?_)
  · cases f with
    | next =>
      obtain ⟨σ', H', I', q⟩ := q
      exact wpAny_execs_nil ⟨σ', H', I'.unwish.unpinC, q⟩
    | brk =>
      obtain ⟨σ', H', I', q⟩ := q
      exact ⟨σ', H', I'.unwish.unpinC, q⟩
    | cont =>
      obtain ⟨σ', H', I', q⟩ := q
      exact ⟨σ', H', I'.unwish.unpinC, q⟩
    | ret u =>
      obtain ⟨v, σ', H', I', r, q⟩ := q
      exact ⟨v, σ', H', I'.unwish.unpinC, r, q⟩
  · obtain ⟨pins', σ', H1, s2, I1, a, C, dx, H', rfl, hos, hbr, un, hok, ⟨oe, vs, T, oT, ts, ga, gc, gd, gf, g1, gne, gT, gt, g3, ha, hT, na, nT⟩, C', eC, q⟩ := q
    cases eC
    have I1 : Inv X pins σ' H1 s2 := I1.unpinC
    have I2 : Inv X pins σ' H' s1 := I1.call' (ch := []) hos un hok hbr (fun b z => absurd z (by simp))
    refine note_next (base := X.base) (by rw [I.ok.frames, hst]) (by rw [← hst]; exact I2.stack) hf ga gf g1 gT gt g3 gne fun h' T' lf => ?_
    have hz : ∀ z, vs[1]? = some (.ref z) → z = T := fun z hz => by rw [g1] at hz; cases hz; rfl
    have hstk : ∀ b ∈ frs (X.env :: X.outer), H' b = none := by rw [← hst]; exact I2.stkFree
    have hok' : HOk X.prog X.w H' h' := left_hok hok lf ha (fun z h => by rw [hz z h]; exact hT) hstk
    have lo : ∀ b o, s2.heap.get? b = some o → ∀ c, s2.heap.objs.size ≤ c → b ≠ c := fun b o z c hc => Nat.ne_of_lt (Nat.lt_of_lt_of_le (Heap.lt_size z) hc)
    have far : ∀ c, s2.heap.objs.size ≤ c → (c ∈ X.ex ∨ X.s₀.heap.objs.size ≤ c) ∧ c ≠ X.env.locals ∧ (∀ x d, X.env.cells.lookup x = some d → d ≠ c) ∧ ∀ p ∈ X.pn ++ pins, p.1 ≠ c := fun c hc =>
      ⟨.inr (Nat.le_trans I1.sz hc), Ne.symm (Nat.ne_of_lt (Nat.lt_of_lt_of_le I1.lt hc)), fun x d hd => by
        obtain ⟨v, ob, ho, _⟩ := I1.cell x d hd
        exact lo d ob ho c hc, fun p hp => lo _ _ (I1.pin p hp).1 c hc⟩
    have u3 : Un (frs X.stack) [a, T] H' H' s1.heap h' := by
      rw [hst]
      refine ⟨fun b o q n hb hx => ?_, fun b o q n hb hx => lf.slot b o hb q, fun b o q n hx => n, fun b o q hx => ?_, fun _ _ e => e, fun _ _ _ e => e, fun b ps e => ⟨#[], by rw [e]; simp⟩⟩
      · exact lf.keep b o (fun z => hx (by simp [z])) hb q fun z hz' z2 => hx (by rw [z2, hz z hz']; simp)
      · by_cases m : b ∈ frs (X.env :: X.outer)
        · obtain ⟨sl, z⟩ := lf.slot b o m q
          exact ⟨_, z⟩
        · exact ⟨o, lf.keep b o (fun z => hx (by simp [z])) m q fun z hz' z2 => hx (by rw [z2, hz z hz']; simp)⟩
    have I3 : Inv X pins σ' H' { s1 with heap := h' } := I2.call (g' := s1.gens) (d' := s1.drawn) (t' := s1.toks) u3 hok' hbr fun b hb => by
      rcases List.mem_cons.mp hb with rfl | hb
      · exact far _ na
      · rw [List.mem_singleton.mp hb]; exact far _ nT
    have new : s2.heap.objs.size ≤ T' := by
      refine Nat.le_trans ?_ lf.new
      exact Nat.le_trans na (Nat.le_of_lt (Heap.lt_size ga))
    have hT' : H' T' = none := I2.hok.fresh lf.new
    have nTa : T' ≠ a := fun z => absurd (Heap.lt_size ga) (by rw [← z]; exact Nat.not_lt.mpr lf.new)
    have I4 : Inv X pins σ' (upd H' a (excT a C dx)) { s1 with heap := h' } := I3.track I1 na ha (excT_ok lf.obj gc gd rfl)
    obtain ⟨oT', ts', gT', gt', g3'⟩ := lf.ent
    obtain ⟨f1, f2, f3, f4⟩ := far T' new
    refine hh pins _ σ' _ C a dx D ⟨I4, upd_same, T', _, _, oT', ts', lf.obj, rfl, ?_, gT', gt', (Array.getElem?_eq_some_iff.mp g3').1, by rw [upd_ne nTa]; exact hT', f2, f1, f3, f4⟩ (q a ha)
    have : 1 < vs.size := (Array.getElem?_eq_some_iff.mp g1).1
    simp [this]
end
def tExFT (C : Addr) (ta : TE) (f : Str) : TE := fun σ H Q => ta σ H fun x H1 => ∃ a fs v, x = .ref a ∧ ExcT H1 a C fs ∧ fs.lookup f = some v ∧ Q v H1
def rIsXT (K : PySem.W.Frag) : List V → Hp → VK → Prop := fun xs H Q => ∃ x c C R fs b, xs = [.ref x, c] ∧ ExcT H x C fs ∧ ExcI K C R ∧ clsIs K (.ref C) c = some b ∧ Q (.bl b) H
section
variable {X : Cx}
theorem pe_exfT {C : Addr} {o : Expr} {f : Str} {ta : TE} {pos : Pos} (G : ExcG X.K C) (n : NoAttr X.K C f) (he : PE X o ta) (hb : attributeBase o f X.env (eval o X.env) = eval o X.env := by rfl) : PE X (.Attribute o f pos) (tExFT C ta f) := by
  intro pins s σ H Q I h
  refine attr_of hb (thn (he pins s σ H _ I h) fun u s1 ⟨x, H1, I1, rx, a, fs, v, ex, ea, l, q⟩ => ?_)
  subst ex
  obtain rfl : u = Value.ref a := rx
  rcases ea with ⟨rfl, _⟩ | ⟨dx, ea, ed, _⟩
  · cases l
  · obtain ⟨⟨oe, vs, ge, gc, gd, gf⟩, _, _⟩ : ObjOk X.prog X.w H1 s1.heap a (excT a C (some dx)) := I1.hok a _ ea
    obtain ⟨⟨mA, nn, r, wi, hl⟩, _, _⟩ : ObjOk X.prog X.w H1 s1.heap dx (dctO dx fs) := I1.hok dx _ ed
    obtain ⟨u', hu, ru⟩ := RelO.some_of (v := v) (o := mA f) (by rw [← l]; exact r f)
    exact exc_get I1.kIn ge gc gd gf nn G.ga G.gb G.mb G.hd n hu (handed_of ru) ⟨v, H1, I1.tok _, ru, q⟩
theorem call_isXT : CallR X (.builtin "isinstance") (rIsXT X.K) := by
  intro pins s σ H xs us Q I r h
  obtain ⟨x, c, C, R, fs, b, rfl, ex, G, e, q⟩ := h
  obtain ⟨u, v, rfl, ru, rv⟩ := vals2 r
  obtain rfl : u = Value.ref x := ru
  cases c with
  | ty T =>
    obtain rfl : v = Value.type T := rv
    exact PySem.W.kia_one (kitx_exc G) I.kIn (exc_instT I ex) e (fun z => nomatch z) fun tk => ⟨.bl b, H, I.tok _, rfl, q⟩
  | ref D =>
    obtain rfl : v = Value.ref D := rv
    exact PySem.W.kia_one (kitx_exc G) I.kIn (exc_instT I ex) e (fun z => nomatch z) fun tk => ⟨.bl b, H, I.tok _, rfl, q⟩
  | _ => cases e
end
theorem exm_same {K : PySem.W.Frag} {C R : Addr} (G : ExcI K C R) : PySem.W.exmOne K (.ref C) (.ref C) = some true := by
  have hb : PySem.W.subIn K (.ref C) (.type "BaseException") = some true := G.g.mb
  unfold PySem.W.exmOne
  rw [hb, if_pos (by rfl)]
  obtain ⟨cd, hc, _⟩ := Option.map_eq_some_iff.mp G.mro
  unfold PySem.W.kitCls
  simp only
  rw [if_pos (by rw [hc, G.ty]; rfl)]
  show PySem.W.mroIn K C (.ref C) = _
  rw [G.in]
  simp [List.contains_cons]
theorem ExcT.off {H H' : Hp} {l x C : Addr} {fs : List (Str × V)} {xs : List V} (o : Off l H H') (hl : H l = some (.lst xs)) (h : ExcT H x C fs) : ExcT H' x C fs := by
  have ne : ∀ {a : Addr} {r : Heap → Prop}, H a = some (.ext r) → a ≠ l := fun {a r} ha q => by
    rw [q, hl] at ha
    cases ha
  rcases h with ⟨a, b⟩ | ⟨dx, a, b, c⟩
  · exact .inl ⟨a, by rw [o x (ne b)]; exact b⟩
  · exact .inr ⟨dx, by rw [o x (ne a)]; exact a, by rw [o dx (ne b)]; exact b, c⟩
theorem exm_up {K : PySem.W.Frag} {C R : Addr} (G : ExcI K C R) (hR : (PySem.W.clsIn K R).isSome = true) (tR : PySem.W.typeIn K (.ref R) = some (.type "type")) (mR : PySem.W.mroIn K R (.type "BaseException") = some true) : PySem.W.exmOne K (.ref C) (.ref R) = some true := by
  have hb : PySem.W.subIn K (.ref R) (.type "BaseException") = some true := mR
  unfold PySem.W.exmOne
  rw [hb, if_pos (by rfl)]
  unfold PySem.W.kitCls
  simp only
  rw [if_pos (by rw [hR, tR]; rfl)]
  show PySem.W.mroIn K C (.ref R) = _
  rw [G.in]
  simp [List.contains_cons]
section
variable {σ : St} {H : Hp} {D : Ends} {tb : List (Addr × Obj) → (St → XK) → TS} {th : THd} {tr : TA} {Q : VK} {EX : St → XK} {sp : Sp}
theorem go_caught {K : PySem.W.Frag} {d C a : Addr} {dx : Option Addr} {i : Nat} {tha : Addr → TS} {rest : THd} (e : PySem.W.exmOne K (.ref C) (.ref d) = some true) (h : tha a (D.forget i) (σ.set i (some (.ref a))) H) : hAs K d i tha rest D C a dx σ H := ⟨true, e, by rw [if_pos rfl]; exact h⟩
end
section
variable {prog : Program} {w : World} {A : Around} {E : Value → Shared → Prop} {s : Shared}
theorem draw_list {it t : Addr} {items : Array Value} (hne : t ≠ it) : ∀ (n i : Nat) (s : Shared) (Q : List Value → Shared → Prop), s.heap.IsListIter it t i → s.heap.IsList t items → i + n ≤ items.size →
    (∀ h' : Heap, h'.IsListIter it t (i + n) → Heap.SameBut it s.heap h' → Q ((items.toList.drop i).take n) { s with heap := h' }) → wpAny (model prog w) A (draw (.ref it) n) Q E s
  | 0, i, s, Q, hit, _, _, hQ => by
    show wpAny _ _ (pure []) Q E s
    exact wpAny_pure (by simpa using hQ s.heap hit (Heap.SameBut.refl ..))
  | n + 1, i, s, Q, hit, ht, hle, hQ => by
    have hlt : i < items.size := by omega
    show wpAny _ _ (pyNext (.ref it) >>= _) Q E s
    refine wpAny_bind (wpAny_pyNext_list_item hit ht (x := items[i]) (by simp [hlt]) fun h₁ hit₁ hs₁ => ?_)
    refine wpAny_bind (wpAny_holding (draw_list hne n (i + 1) _ _ hit₁ (ht.extBut hs₁.extBut hne) (by omega) fun h₂ hit₂ hs₂ => wpAny_pure ?_))
    have hd : items.toList.drop i = items[i] :: items.toList.drop (i + 1) := by simp [List.drop_eq_getElem_cons, hlt]
    have := hQ h₂ (by rw [show i + (n + 1) = i + 1 + n by omega]; exact hit₂) (hs₁.trans hs₂)
    rw [hd, List.take_succ_cons] at this
    exact this
theorem unpackItems_list {t : Addr} {items : Array Value} {Q : List Value → Shared → Prop} (hh : A.handled = none) (ht : s.heap.IsList t items)
    (hQ : ∀ h', Heap.ExtBut s.heap.objs.size s.heap h' → Q items.toList { s with heap := h' }) : wpAny (model prog w) A (unpackItems (.ref t) items.size none) Q E s := by
  have hlt : t ≠ s.heap.objs.size := by obtain ⟨o, ho, _⟩ := ht; exact Nat.ne_of_lt (Heap.lt_size ho)
  unfold unpackItems
  refine wpAny_bind ?_
  unfold notIterableAtAll
  refine wpAny_bind (wpAny_specialOf ht.typeIs slot_list_iter.lookup ?_)
  refine wpAny_pure ?_
  simp only [Bool.false_eq_true, if_false]
  refine wpAny_bind (wpAny_holding (wpAny_pyIter_list ht ?_))
  refine wpAny_bind (wpAny_holding (draw_list hlt items.size 0 _ _ ⟨_, Heap.get?_push_size _ rfl, rfl, rfl⟩ (ht.push _) (by omega) fun h₁ hit₁ hs₁ => ?_))
  have hall : List.take items.size (List.drop 0 items.toList) = items.toList := by
    rw [List.drop_zero]; exact List.take_of_length_le (by simp)
  rw [hall]
  rw [if_neg (by simp)]
  have ht₁ : h₁.IsList t items := (ht.push _).extBut hs₁.extBut hlt
  refine wpAny_bind (wpAny_holding (wpAny_pyNext_list_end hh hit₁ ht₁ (by simp) fun h₂ he₂ => ?_))
  simp only [Option.isSome_none, Bool.false_eq_true, if_false]
  refine wpAny_pure (hQ h₂ fun b o hb e => he₂ b o hb (hs₁.extBut b o hb (Heap.get?_push_of_some _ e)))
theorem assign_Tuple_list {env : Env} {elts : List Expr} {x1} {pos : Pos} {t : Addr} {items : Array Value} {Q : Unit → Shared → Prop} (hh : A.handled = none) (ht : s.heap.IsList t items)
    (hn : (assignEach elts env).length = items.size) (hstar : (assignEach elts env).findIdx? (·.1) = none)
    (h : ∀ h', Heap.ExtBut s.heap.objs.size s.heap h' → wpAny (model prog w) A (assignInOrder ((assignEach elts env).map (·.2)) items.toList) Q E { s with heap := h' }) :
    wpAny (model prog w) A (assign (.Tuple elts x1 pos) env (.ref t)) Q E s := by
  rw [assign_Tuple]
  refine wpAny_bind (wpAny_standAt ?_)
  unfold unpack
  rw [hn, hstar]
  exact wpAny_bind (wpAny_holding (unpackItems_list hh ht h))
end
def gLst (K : PySem.W.Frag) (n : Nat) (t : TGs) : TG := fun v σ H Q => ∃ a xs, v = .ref a ∧ SqL K H a xs ∧ xs.length = n ∧ t xs σ H Q
theorem pg_lst {X : Cx} {pos : Pos} {es : List Expr} {k : Nat} {t : TGs} {n : Nat} (hc : X.calm = true) (h : PGs X es t)
    (hn : (assignEach es X.env).length = n := by rfl) (hst : (assignEach es X.env).findIdx? (·.1) = none := by rfl) : PG X (.Tuple es k pos) (gLst X.K n t) := by
  intro pins s σ H v u Q I r hw
  obtain ⟨a, xs, e1, hq, hl, hw⟩ := hw
  subst e1
  cases r
  obtain ⟨its, rv, ht, hz⟩ := I.list hq
  refine assign_Tuple_list (I.ok.hd hc) ht.isList (by simp [hn, ← hl, rv.length]) hst fun h' hx => ?_
  have I1 : Inv X pins σ H { s with heap := h' } := I.kept (t' := s.toks) fun b o e => hx b o (Nat.ne_of_lt (Heap.lt_size e)) e
  exact h pins _ σ H xs _ Q I1 (by simpa using rv) hw
section
variable {σ σ' : St} {H : Hp} {K : PySem.W.Frag} {p : Addr} {a b c d : V} {i0 i1 i2 i3 : Nat} {R : St → Hp → Prop}
theorem go_l2 (hp : SqL K H p [a, b]) (e : (σ.set i0 (some a)).set i1 (some b) = σ') (h : R σ' H) : gLst K 2 (gCons (gName i0) (gCons (gName i1) gNil)) (.ref p) σ H R :=
  ⟨p, _, rfl, hp, rfl, _, _, rfl, _, _, rfl, rfl, by rw [e]; exact h⟩
theorem go_l3 (hp : SqL K H p [a, b, c]) (e : ((σ.set i0 (some a)).set i1 (some b)).set i2 (some c) = σ') (h : R σ' H) : gLst K 3 (gCons (gName i0) (gCons (gName i1) (gCons (gName i2) gNil))) (.ref p) σ H R :=
  ⟨p, _, rfl, hp, rfl, _, _, rfl, _, _, rfl, _, _, rfl, rfl, by rw [e]; exact h⟩
end
def rIsT (K : PySem.W.Frag) : List V → Hp → VK → Prop := fun xs H Q => ∃ x d t b, xs = [x, d] ∧ TyOf K H x t ∧ clsIs K t d = some b ∧ Q (.bl b) H
theorem call_isT {X : Cx} : CallR X (.builtin "isinstance") (rIsT X.K) := call_isinstance
theorem lk2 {f g : Str} {v y : V} (h : f ≠ g) : [(f, v), (g, y)].lookup g = some y := by
  have hb : (g == f) = false := beq_eq_false_iff_ne.mpr (Ne.symm h)
  simp [List.lookup, hb]
section
variable {X : Cx}
def rSlA (K : PySem.W.Frag) : V → Option Int → Option Int → Hp → VK → Prop := fun x lo hi H Q => ∃ a xs, x = .ref a ∧ SqL K H a xs ∧ ∀ p H', New H H' p (.lst (cutV xs lo hi)) → Q (.ref p) H'
theorem sl_listA : SlR X (rSlA X.K) := by
  intro pins s σ H x v vl vu lo hi sl Q I rx hs pl pu h
  obtain ⟨a, xs, e, hx, q⟩ := h
  exact sl_list pins s σ H x v vl vu lo hi sl Q I rx hs pl pu ⟨a, xs, e, hx, fun p hp => q p _ (.mk' hp)⟩
def rClearA : V → List V → Hp → VK → Prop := fun x vs H Q => ∃ l xs, x = .ref l ∧ vs = [] ∧ H l = some (.lst xs) ∧ ∀ H', Off l H H' → H' l = some (.lst []) → Q .non H'
theorem mt_clearA : MtM X "list.clear" rClearA := by
  intro pins s σ H x vs v us Q I rx rv h
  obtain ⟨l, xs, e1, e2, hH, q⟩ := h
  exact mt_clear pins s σ H x vs v us Q I rx rv ⟨l, xs, e1, e2, hH, q _ Off.upd upd_same⟩
theorem pe_clearA {o : Expr} {to : TE} {apos cpos : Pos} (ho : PE X o to) (hbase : attributeBase o "clear" X.env (eval o X.env) = eval o X.env := by rfl) (hline : (apos.endLine == cpos.line) = true := by rfl) :
    PE X (.Call (.Attribute o "clear" apos) [] [] cpos) (tBM0 X.K "list" rClearA to) :=
  pe_bm0 PySem.F.plainAttrs_list PySem.F.slot_list_clear PySem.F.type_list_clear mt_clearA ho hbase hline
def rLOfA (K : PySem.W.Frag) : List V → Hp → VK → Prop := fun xs H Q => ∃ p ys, xs = [.ref p] ∧ (SqL K H p ys ∨ SqT K H p ys) ∧ ∀ l H', New H H' l (.lst ys) → Q (.ref l) H'
theorem call_list_ofA : CallR X (.type "list") (rLOfA X.K) := by
  intro pins s σ H xs us Q I r h
  obtain ⟨p, ys, e, hq, q⟩ := h
  exact call_list_of pins s σ H xs us Q I r ⟨p, ys, e, hq, fun l hl => q l _ (.mk' hl)⟩
end
section
variable {σ : St} {H : Hp} {Q : VK} {v x y : V} {i j : Int} {K : PySem.W.Frag} {t ta tb tc : TE} {tr : TA} {s u : TS} {D : Ends} {c d : TT}
theorem wv0 {r : St} (h : Q v H) : tVar 0 (some v :: r) H Q := ⟨v, rfl, h⟩
theorem wv1 {o0 : Option V} {r : St} (h : Q v H) : tVar 1 (o0 :: some v :: r) H Q := ⟨v, rfl, h⟩
theorem wn1 {o0 : Option V} {o : Option V} {r : St} {R : St → Hp → Prop} (h : R (o0 :: some v :: r) H) : gName 1 v (o0 :: o :: r) H R := h
theorem wv2 {o0 o1 : Option V} {r : St} (h : Q v H) : tVar 2 (o0 :: o1 :: some v :: r) H Q := ⟨v, rfl, h⟩
theorem wn2 {o0 o1 : Option V} {o : Option V} {r : St} {R : St → Hp → Prop} (h : R (o0 :: o1 :: some v :: r) H) : gName 2 v (o0 :: o1 :: o :: r) H R := h
theorem wv3 {o0 o1 o2 : Option V} {r : St} (h : Q v H) : tVar 3 (o0 :: o1 :: o2 :: some v :: r) H Q := ⟨v, rfl, h⟩
theorem wn3 {o0 o1 o2 : Option V} {o : Option V} {r : St} {R : St → Hp → Prop} (h : R (o0 :: o1 :: o2 :: some v :: r) H) : gName 3 v (o0 :: o1 :: o2 :: o :: r) H R := h
theorem wv4 {o0 o1 o2 o3 : Option V} {r : St} (h : Q v H) : tVar 4 (o0 :: o1 :: o2 :: o3 :: some v :: r) H Q := ⟨v, rfl, h⟩
theorem wn4 {o0 o1 o2 o3 : Option V} {o : Option V} {r : St} {R : St → Hp → Prop} (h : R (o0 :: o1 :: o2 :: o3 :: some v :: r) H) : gName 4 v (o0 :: o1 :: o2 :: o3 :: o :: r) H R := h
theorem wv5 {o0 o1 o2 o3 o4 : Option V} {r : St} (h : Q v H) : tVar 5 (o0 :: o1 :: o2 :: o3 :: o4 :: some v :: r) H Q := ⟨v, rfl, h⟩
theorem wn5 {o0 o1 o2 o3 o4 : Option V} {o : Option V} {r : St} {R : St → Hp → Prop} (h : R (o0 :: o1 :: o2 :: o3 :: o4 :: some v :: r) H) : gName 5 v (o0 :: o1 :: o2 :: o3 :: o4 :: o :: r) H R := h
theorem wv6 {o0 o1 o2 o3 o4 o5 : Option V} {r : St} (h : Q v H) : tVar 6 (o0 :: o1 :: o2 :: o3 :: o4 :: o5 :: some v :: r) H Q := ⟨v, rfl, h⟩
theorem wn6 {o0 o1 o2 o3 o4 o5 : Option V} {o : Option V} {r : St} {R : St → Hp → Prop} (h : R (o0 :: o1 :: o2 :: o3 :: o4 :: o5 :: some v :: r) H) : gName 6 v (o0 :: o1 :: o2 :: o3 :: o4 :: o5 :: o :: r) H R := h
theorem wv7 {o0 o1 o2 o3 o4 o5 o6 : Option V} {r : St} (h : Q v H) : tVar 7 (o0 :: o1 :: o2 :: o3 :: o4 :: o5 :: o6 :: some v :: r) H Q := ⟨v, rfl, h⟩
theorem wn7 {o0 o1 o2 o3 o4 o5 o6 : Option V} {o : Option V} {r : St} {R : St → Hp → Prop} (h : R (o0 :: o1 :: o2 :: o3 :: o4 :: o5 :: o6 :: some v :: r) H) : gName 7 v (o0 :: o1 :: o2 :: o3 :: o4 :: o5 :: o6 :: o :: r) H R := h
theorem wv8 {o0 o1 o2 o3 o4 o5 o6 o7 : Option V} {r : St} (h : Q v H) : tVar 8 (o0 :: o1 :: o2 :: o3 :: o4 :: o5 :: o6 :: o7 :: some v :: r) H Q := ⟨v, rfl, h⟩
theorem wn8 {o0 o1 o2 o3 o4 o5 o6 o7 : Option V} {o : Option V} {r : St} {R : St → Hp → Prop} (h : R (o0 :: o1 :: o2 :: o3 :: o4 :: o5 :: o6 :: o7 :: some v :: r) H) : gName 8 v (o0 :: o1 :: o2 :: o3 :: o4 :: o5 :: o6 :: o7 :: o :: r) H R := h
theorem wv9 {o0 o1 o2 o3 o4 o5 o6 o7 o8 : Option V} {r : St} (h : Q v H) : tVar 9 (o0 :: o1 :: o2 :: o3 :: o4 :: o5 :: o6 :: o7 :: o8 :: some v :: r) H Q := ⟨v, rfl, h⟩
theorem wn9 {o0 o1 o2 o3 o4 o5 o6 o7 o8 : Option V} {o : Option V} {r : St} {R : St → Hp → Prop} (h : R (o0 :: o1 :: o2 :: o3 :: o4 :: o5 :: o6 :: o7 :: o8 :: some v :: r) H) : gName 9 v (o0 :: o1 :: o2 :: o3 :: o4 :: o5 :: o6 :: o7 :: o8 :: o :: r) H R := h
theorem wv10 {o0 o1 o2 o3 o4 o5 o6 o7 o8 o9 : Option V} {r : St} (h : Q v H) : tVar 10 (o0 :: o1 :: o2 :: o3 :: o4 :: o5 :: o6 :: o7 :: o8 :: o9 :: some v :: r) H Q := ⟨v, rfl, h⟩
theorem wn10 {o0 o1 o2 o3 o4 o5 o6 o7 o8 o9 : Option V} {o : Option V} {r : St} {R : St → Hp → Prop} (h : R (o0 :: o1 :: o2 :: o3 :: o4 :: o5 :: o6 :: o7 :: o8 :: o9 :: some v :: r) H) : gName 10 v (o0 :: o1 :: o2 :: o3 :: o4 :: o5 :: o6 :: o7 :: o8 :: o9 :: o :: r) H R := h
theorem wv11 {o0 o1 o2 o3 o4 o5 o6 o7 o8 o9 o10 : Option V} {r : St} (h : Q v H) : tVar 11 (o0 :: o1 :: o2 :: o3 :: o4 :: o5 :: o6 :: o7 :: o8 :: o9 :: o10 :: some v :: r) H Q := ⟨v, rfl, h⟩
theorem wn11 {o0 o1 o2 o3 o4 o5 o6 o7 o8 o9 o10 : Option V} {o : Option V} {r : St} {R : St → Hp → Prop} (h : R (o0 :: o1 :: o2 :: o3 :: o4 :: o5 :: o6 :: o7 :: o8 :: o9 :: o10 :: some v :: r) H) : gName 11 v (o0 :: o1 :: o2 :: o3 :: o4 :: o5 :: o6 :: o7 :: o8 :: o9 :: o10 :: o :: r) H R := h
theorem w_c (h : Q v H) : tC v σ H Q := h
theorem w_i0 {f : Int → Int → V} (h : Q (f i j) H) : rI0 f (.int i) (.int j) H Q := ⟨i, j, rfl, rfl, h⟩
theorem w_mod {f : Int → Int → V} (hj : 0 < j) (h : Q (f i j) H) : rI (fun _ j => 0 < j) f (.int i) (.int j) H Q := ⟨i, j, rfl, rfl, hj, h⟩
theorem w_div {f : Int → Int → V} (h0 : 0 < j) (h1 : j < 1073741824) (h : Q (f i j) H) : rI CDiv f (.int i) (.int j) H Q := ⟨i, j, rfl, rfl, ⟨h0, h1⟩, h⟩
theorem w_pow {f : Int → Int → V} (h0 : 0 ≤ j) (h1 : j ≤ 1000000) (h2 : i.natAbs < 2 ^ 64) (h : Q (f i j) H) : rI CPow f (.int i) (.int j) H Q := ⟨i, j, rfl, rfl, ⟨h0, h1, h2⟩, h⟩
theorem w_mulL {f : Int → Int → V} (h0 : -(2 ^ 64) < i) (h1 : i < 2 ^ 64) (h : Q (f i j) H) : rI CMul f (.int i) (.int j) H Q := ⟨i, j, rfl, rfl, .inl ⟨h0, h1⟩, h⟩
theorem w_mulR {f : Int → Int → V} (h0 : -(2 ^ 64) < j) (h1 : j < 2 ^ 64) (h : Q (f i j) H) : rI CMul f (.int i) (.int j) H Q := ⟨i, j, rfl, rfl, .inr ⟨h0, h1⟩, h⟩
theorem w_u {g : Int → V} (h : Q (g i) H) : rU g (.int i) H Q := ⟨i, rfl, h⟩
theorem w_un {r : V → Hp → VK → Prop} (h : ta σ H fun x H1 => r x H1 Q) : tUn r ta σ H Q := h
theorem w_eqi (h : Q (.bl (decide (i = j))) H) : rEq (.int i) (.int j) H Q := ⟨rfl, by rw [show decide (V.int i = V.int j) = decide (i = j) from decide_eq_decide.mpr ⟨fun e => by cases e; rfl, fun e => by rw [e]⟩]; exact h⟩
theorem w_nei (h : Q (.bl (!decide (i = j))) H) : rNe (.int i) (.int j) H Q := ⟨rfl, by rw [show decide (V.int i = V.int j) = decide (i = j) from decide_eq_decide.mpr ⟨fun e => by cases e; rfl, fun e => by rw [e]⟩]; exact h⟩
theorem w_bl {k : Bool} {R : Bool → Prop} (h : R k) : ∃ c, V.bl k = .bl c ∧ R c := ⟨k, rfl, h⟩
theorem w_not {R : Bool → Hp → Prop} (h : c σ H fun b H1 => R (!b) H1) : tNot c σ H R := h
theorem w_and {R : Bool → Hp → Prop} (h : c σ H fun b H1 => if b = true then d σ H1 R else R false H1) : tAnd c d σ H R := h
theorem w_or {R : Bool → Hp → Prop} (h : c σ H fun b H1 => if b = true then R true H1 else d σ H1 R) : tOr c d σ H R := h
theorem w_notV (h : ta σ H fun x H1 => ∃ c, x = .bl c ∧ Q (.bl (!c)) H1) : tNotV ta σ H Q := h
theorem w_andV (h : ta σ H fun x H1 => ∃ c, x = .bl c ∧ if c = true then tb σ H1 Q else Q (.bl false) H1) : tAndV ta tb σ H Q := h
theorem w_chain {r r' : R2} (h : ta σ H fun x H1 => tb σ H1 fun y H2 => r x y H2 fun z H3 => ∃ k, z = .bl k ∧ if k = true then tc σ H3 fun w H4 => r' y w H4 Q else Q (.bl false) H3) : tChain r r' ta tb tc σ H Q := h
theorem w_rt {nx bk ct : St → Hp → Prop} {rt : VK} (h : rt v H) : (Ends.mk nx rt bk ct).rt v H := h
theorem w_call {sp : Sp} {E : XK} (h : tr σ H fun vs H1 => sp vs H1 Q E) : tCall sp [] E tr σ H Q := by
  have e : (fun vs H1 => sp (vs ++ []) H1 Q E) = fun vs H1 => sp vs H1 Q E := by
    funext vs H1
    rw [List.append_nil]
  show tr σ H fun vs H1 => sp (vs ++ []) H1 Q E
  rw [e]
  exact h
theorem w_bm {T : String} {r : V → List V → Hp → VK → Prop} {to : TE} (h : to σ H fun x H1 => tyV K T x H1 ∧ tr σ H1 fun xs H2 => r x xs H2 Q) : tBM K T r to tr σ H Q := h
theorem w_bm0 {T : String} {r : V → List V → Hp → VK → Prop} {to : TE} (h : to σ H fun x H1 => tyV K T x H1 ∧ r x [] H1 Q) : tBM0 K T r to σ H Q := h
theorem w_slice {r : V → Option Int → Option Int → Hp → VK → Prop} {tl th : TO} (h : t σ H fun x H1 => tl σ H1 fun l H2 => th σ H2 fun u H3 => r x l u H3 Q) : tSl r t tl th σ H Q := h
theorem w_noPart {R : Option Int → Hp → Prop} (h : R none H) : tNoPart σ H R := h
theorem w_part {R : Option Int → Hp → Prop} (h : t σ H fun x H1 => ∃ i, x = .int i ∧ R (some i) H1) : tPart t σ H R := h
theorem w_int {R : Int → Prop} (h : R i) : ∃ k, V.int i = .int k ∧ R k := ⟨i, rfl, h⟩
theorem w_ixL {p : Addr} {xs : List V} (h : SqL K H p xs) (e : atI xs i = some v) (k : Q v H) : rIxL K (.ref p) (.int i) H Q := ⟨p, xs, i, v, rfl, rfl, h, e, k⟩
theorem w_ixT {p : Addr} {xs : List V} (h : SqT K H p xs) (e : atI xs i = some v) (k : Q v H) : rIxT K (.ref p) (.int i) H Q := ⟨p, xs, i, v, rfl, rfl, h, e, k⟩
def rLen (K : PySem.W.Frag) : List V → Hp → VK → Prop := fun xs H Q => ∃ x n, xs = [x] ∧ LenV K x H n ∧ Q (.int n) H
theorem w_lenL {p : Addr} {xs : List V} (h : SqL K H p xs) (k : Q (.int xs.length) H) : rLen K [.ref p] H Q := ⟨_, xs.length, rfl, .inl ⟨xs, h, rfl⟩, k⟩
theorem w_lenT {p : Addr} {xs : List V} (h : SqT K H p xs) (k : Q (.int xs.length) H) : rLen K [.ref p] H Q := ⟨_, xs.length, rfl, .inr ⟨xs, h, rfl⟩, k⟩
def rMax2 : List V → Hp → VK → Prop := fun xs H Q => ∃ i j, xs = [.int i, .int j] ∧ Q (.int (if j > i then j else i)) H
theorem w_max (h : Q (.int (max i j)) H) : rMax2 [.int i, .int j] H Q := ⟨i, j, rfl, by
  rw [show (if j > i then j else i) = max i j by rw [Int.max_def]; split <;> split <;> omega]
  exact h⟩
theorem w_is {x d : V} {tv : Value} {b : Bool} (ty : TyOf K H x tv) (e : clsIs K tv d = some b) (h : Q (.bl b) H) : rIsT K [x, d] H Q := ⟨x, d, tv, b, rfl, ty, e, h⟩
def rIsN : R2 := fun x y H Q => y = .non ∧ Q (.bl (decide (x = .non))) H
end
section
variable {X : Cx}
theorem call_lenN : CallR X (.builtin "len") (rLen X.K) := call_len
theorem call_maxN (hc : X.calm = true) : CallR X (.builtin "max") rMax2 := call_max2 hc
theorem op_isNN : OpR X (compareOp .Is) rIsN := op_isN
end
section
variable {A B p : Prop} [Decidable p] {b : Bool}
theorem i_dec (h1 : p → A) (h2 : ¬ p → B) : if decide p = true then A else B := by
  by_cases h : p
  · rw [if_pos (decide_eq_true h)]; exact h1 h
  · rw [if_neg (by simpa using h)]; exact h2 h
theorem i_b (h1 : b = true → A) (h2 : b = false → B) : if b = true then A else B := by
  cases b with
  | true => exact iteT (h1 rfl)
  | false => exact iteF (h2 rfl)
theorem i_T (h : b = true) (k : A) : if b = true then A else B := by rw [if_pos h]; exact k
theorem i_F (h : b = false) (k : B) : if b = true then A else B := by rw [if_neg (by rw [h]; exact Bool.false_ne_true)]; exact k
theorem i_pos (h : p) (k : A) : if decide p = true then A else B := by rw [if_pos (decide_eq_true h)]; exact k
theorem i_neg (h : ¬ p) (k : B) : if decide p = true then A else B := by rw [if_neg (by simpa using h)]; exact k
theorem i_npos (h : p) (k : B) : if (!decide p) = true then A else B := by rw [if_neg (by simpa using h)]; exact k
end
section
variable {H H0 H1 H2 H' : Hp} {p q a : Addr} {o u : HO} {xs ys : List V}
theorem Same.off (s : Same H0 H) (f : Off p H H') (n : ∀ b u, H0 b = some u → b ≠ p) : Same H0 H' := fun b u e => by
  rw [f b (n b u e)]
  exact s b u e
theorem New.trans (n1 : New H H1 p o) (n2 : New H1 H2 q u) : New H H2 q u := ⟨n1.s.trans n2.s, n2.e, fun a v e => n2.n a v (n1.s a v e)⟩
def TupsAt (H : Hp) (ys : List V) (rows : List (List V)) : Prop := ys.length = rows.length ∧ ∀ (j : Nat) (r : List V), rows[j]? = some r → ∃ q, ys[j]? = some (.ref q) ∧ H q = some (.tup r)
theorem TupsAt.same {rows : List (List V)} (s : Same H H') (h : TupsAt H ys rows) : TupsAt H' ys rows := ⟨h.1, fun j r e => let ⟨q, a, b⟩ := h.2 j r e; ⟨q, a, s _ _ b⟩⟩
theorem TupsAt.off {rows : List (List V)} (h : TupsAt H ys rows) (f : Off p H H') (hl : H p = some (.lst xs)) : TupsAt H' ys rows := ⟨h.1, fun j r e => by
  obtain ⟨q, a, b⟩ := h.2 j r e
  have ne : q ≠ p := ne_of b hl (fun z => by cases z)
  exact ⟨q, a, by rw [f q ne]; exact b⟩⟩
theorem TupsAt.nil : TupsAt H [] [] := ⟨rfl, fun j r e => by simp at e⟩
theorem TupsAt.reverse {rows : List (List V)} (h : TupsAt H ys rows) : TupsAt H ys.reverse rows.reverse := by
  refine ⟨by rw [List.length_reverse, List.length_reverse, h.1], fun j r e => ?_⟩
  have hj : j < rows.length := by
    have := (List.getElem?_eq_some_iff.mp e).1
    rwa [List.length_reverse] at this
  rw [List.getElem?_reverse hj] at e
  obtain ⟨q, a, b⟩ := h.2 _ r e
  exact ⟨q, by rw [List.getElem?_reverse (by rw [h.1]; exact hj), h.1]; exact a, b⟩
end
section
variable {σ : St} {H : Hp} {Q : VK} {K : PySem.W.Frag} {tr : TA} {D : Ends} {i j : Int} {g : TG} {tb : TS} {a b : V} {p : Addr}
theorem w_tup2 {i0 i1 : Nat} {R : St → Hp → Prop} (hp : SqT K H p [a, b]) (h : gName i0 a σ H fun σ1 H1 => gName i1 b σ1 H1 R) : gTup K 2 (gCons (gName i0) (gCons (gName i1) gNil)) (.ref p) σ H R :=
  ⟨p, _, rfl, hp, rfl, _, _, rfl, _, _, rfl, rfl, h⟩
end
def rEqD (K : PySem.W.Frag) : R2 := fun x y H Q => ∃ d d', Rep K H d x ∧ Rep K H d' y ∧ depD d ≤ 100 ∧ Q (.bl (eqDt d d')) H
def rNeD (K : PySem.W.Frag) : R2 := fun x y H Q => ∃ d d', Rep K H d x ∧ Rep K H d' y ∧ depD d ≤ 100 ∧ Q (.bl (!eqDt d d')) H
theorem op_eq_dN {X : Cx} {k : Nat} (hr : Room k X.A) : OpR X (compareOp .Eq) (rEqD X.K) := op_eq_d hr
theorem op_ne_dN {X : Cx} {k : Nat} (hr : Room k X.A) : OpR X (compareOp .NotEq) (rNeD X.K) := op_ne_d hr
theorem reps_ints {K : PySem.W.Frag} {H : Hp} : ∀ ns : List Int, Reps K H (ns.map Dt.int) (ns.map V.int)
  | [] => by simp [Reps]
  | n :: ns => by
    simp only [List.map_cons, Reps]
    exact ⟨_, _, rfl, by simp [Rep], reps_ints ns⟩
theorem rep_tints {K : PySem.W.Frag} {H : Hp} {p : Addr} {ns : List Int} (h : SqT K H p (ns.map V.int)) : Rep K H (.tup (ns.map Dt.int)) (.ref p) := by
  simp only [Rep]
  exact ⟨p, _, rfl, h, reps_ints ns⟩
end L2
namespace L2
open PySem PySem.Spec PyProof.Rows PySem.SeqAt
section
variable {X : Cx} {a : Expr} {ta : TE} {pos : Pos}
def idV : V → Bool
  | .non => true
  | .bl _ => true
  | .int _ => true
  | .str _ => true
  | .ref _ => true
  | _ => false
theorem same_eqAt {A : Around} {s : Shared} {x : V} {u v : Value} (f : idV x = true) (ru : RelV x u) (rv : RelV x v) : EqAt A s u v true := by
  cases x with
  | non => cases ru; cases rv; exact EqAt.same _
  | bl b => cases ru; cases rv; exact EqAt.same _
  | ref b => cases ru; cases rv; exact EqAt.same _
  | int i =>
    obtain ⟨t, rfl⟩ := ru
    obtain ⟨t', rfl⟩ := rv
    have := EqAt.int_int (A := A) (s := s) i t i t'
    rwa [beq_self_eq_true] at this
  | str z =>
    obtain ⟨t, rfl⟩ := ru
    obtain ⟨t', rfl⟩ := rv
    have := EqAt.str_str (A := A) (s := s) z t z t'
    rwa [beq_self_eq_true] at this
  | _ => exact absurd (show false = true from f) Bool.false_ne_true
end
theorem go_filter {σ : St} {H : Hp} {wi : TI} {J : It} {xs : List V} {Lk : Hp → Prop} {c : TT} {Q : VK} {fr : List Nat} {fvs : St} {p : V → Bool} (hz : xs.length ≤ 1000000) (hf : (fr.map fun i => (σ[i]?).getD none) = fvs)
    (it : L2.ItemsOf J xs Lk) (hw : ∀ R : It → Hp → Prop, R J H → wi σ H R) (hL : ∀ H', Same H H' → Lk H')
    (turn : ∀ (i : Nat) (v : V) (H' : Hp) (R : Bool → Hp → Prop), xs[i]? = some v → Same H H' → (∀ H2, Same H' H2 → R (p v) H2) → c (some v :: fvs) H' R)
    (k : ∀ l H', New H H' l (.lst (xs.filter p)) → Q (.ref l) H') : tComp wi 1 fr (gName 0) c (tVar 0) σ H Q := by
  refine hw _ fun acc hacc => ?_
  subst hf
  have nacc : ∀ b u, H b = some u → b ≠ acc := fun b u e => ne_of_none e hacc
  refine comp_by it (fun i ys H' => H' acc = some (.lst ys) ∧ Same H H' ∧ ys = (xs.take i).filter p) ⟨upd_same, Same.new hacc, by simp⟩ (fun i ys H' _ h => ⟨hL H' h.2.1, h.1⟩) ?_ ?_
  · rintro i x tv ys H' hx hi ⟨ha, hs, rfl⟩ htv
    obtain ⟨tv0, rfl⟩ : ∃ a, tv = [a] := List.length_eq_one_iff.mp htv
    have tk : xs.take (i + 1) = xs.take i ++ [x] := by
      rw [List.take_succ, hx]
      rfl
    unfold gName
    refine turn i x H' _ hx hs fun H2 s2 => ?_
    cases hp : p x with
    | true =>
      refine iteT ⟨x, rfl, ?_, s2 _ _ ha, CompW.next (tv := [some x]) hi ⟨upd_same, fun b u e => ?_, ?_⟩ rfl⟩
      · refine Nat.lt_of_le_of_lt (List.length_filter_le _ _) (Nat.lt_of_lt_of_le ?_ (small_line hz))
        rw [List.length_take]
        omega
      · rw [upd_ne (nacc b u e)]
        exact s2 _ _ (hs _ _ e)
      · rw [tk, List.filter_append]
        simp [hp]
    | false =>
      refine iteF (CompW.next (tv := [some x]) hi ⟨s2 _ _ ha, hs.trans s2, ?_⟩ rfl)
      rw [tk, List.filter_append]
      simp [hp]
  · rintro ys H' ⟨ha, hs, rfl⟩
    rw [List.take_length] at ha
    exact k acc H' ⟨hs, ha, nacc⟩
def tRevSl (K : PySem.W.Frag) (te ts : TE) : TE := fun σ H Q => te σ H fun x H1 => ts σ H1 fun y H2 => ∃ a xs, x = .ref a ∧ y = .int (-1) ∧ SqL K H2 a xs ∧ ∀ p H', New H2 H' p (.lst xs.reverse) → Q (.ref p) H'
theorem pe_revSl {X : Cx} {e st : Expr} {te ts : TE} {pos p2 : Pos} (he : PE X e te) (hst : PE X st ts) : PE X (.Subscript e (.Slice none none (some st) p2) pos) (tRevSl X.K te ts) := by
  intro pins s σ H Q I h
  refine Subscript_ (thn (he pins s σ H _ I h) fun v s1 ⟨x, H1, I1, r1, q1⟩ => ?_)
  refine wpAny_Slice (wpAny_evalPart_none (wpAny_evalPart_none (wpAny_evalPart_some (thn (hst pins s1 σ H1 _ I1 q1) fun z s2 ⟨y, H2, I2, r2, q2⟩ => ?_))))
  obtain ⟨a, xs, rfl, rfl, hx, q⟩ := q2
  cases r1
  obtain ⟨t, rfl⟩ := r2
  have I3 : Inv X pins σ H2 { s2 with heap := s2.heap.push { cls := .type "slice", data := .fields #[.none, .none, .int (-1) t] } } := I2.kept (t' := s2.toks) fun b ob z => Heap.get?_push_of_some _ z
  obtain ⟨its, r, ht, hz⟩ := I3.list hx
  have hlen := r.length
  show wpAny (model X.prog X.w) X.A (subscriptTail e (.Slice none none (some st) p2) (.ref a) (.ref s2.heap.objs.size)) (EP X pins σ Q) X.xe { s2 with heap := s2.heap.push { cls := .type "slice", data := .fields #[.none, .none, .int (-1) t] } }
  refine tail_any (ops := [.ref a, .ref s2.heap.objs.size]) ht.isList.typeIs slot_list_getitem.lookup ?_ (by with_unfolding_all rfl)
  refine wpAny_getItem_list_slice (lo := none) (hi := none) (st := some (-1)) ht.isList (Heap.IsSliceOf.new ..) .none .none (.int (-1) t) (by decide) ?_ (by rw [List.size_toArray] <;> omega)
  rw [PySem.W.krv_pick]
  refine ⟨.ref (s2.heap.push { cls := .type "slice", data := .fields #[.none, .none, .int (-1) t] }).objs.size, _, I3.laid (t' := s2.toks) (o := .lst xs.reverse) (fun b ob z => Heap.get?_push_of_some _ z) (Nat.le_refl _) ?_, rfl, q _ _ (.mk' (I3.hok.fresh (Nat.le_refl _)))⟩
  exact ⟨by rw [List.length_reverse]; exact hz, its.reverse, 0, r.reverse, Heap.get?_push_size _ rfl⟩
theorem w_revSl {σ : St} {H : Hp} {Q : VK} {K : PySem.W.Frag} {te ts : TE} (h : te σ H fun x H1 => ts σ H1 fun y H2 => ∃ a xs, x = .ref a ∧ y = .int (-1) ∧ SqL K H2 a xs ∧ ∀ p H', New H2 H' p (.lst xs.reverse) → Q (.ref p) H') : tRevSl K te ts σ H Q := h
def Kp (b : Addr) (H H' : Hp) : Prop := ∀ x u, x ≠ b → H x = some u → H' x = some u
section
variable {b p : Addr} {H H1 H2 : Hp} {o : HO}
theorem Kp.trans (a : Kp b H H1) (c : Kp b H1 H2) : Kp b H H2 := fun x u n h => c x u n (a x u n h)
theorem Same.kp (s : Same H H1) : Kp b H H1 := fun x u _ h => s x u h
theorem Off.kp (f : Off b H H1) : Kp b H H1 := fun x u n h => by rw [f x n]; exact h
theorem Kp.same {H0 : Hp} (s : Same H0 H) (k : Kp b H H1) (n : ∀ x u, H0 x = some u → x ≠ b) : Same H0 H1 := fun x u e => k x u (n x u e) (s x u e)
end
def ForL (K : PySem.W.Frag) (a : Addr) (g : TG) (tb : TS) (D : Ends) (σ : St) (H : Hp) : Prop := ∃ W : Nat → Nat → St → Hp → Prop, (∃ m, W 0 m σ H) ∧ ∀ i m σ H, W i m σ H →
  ((Itl K a).stop i H ∧ D.nx σ H) ∨ ((Itl K a).go i H ∧ ∃ N : St → Hp → Prop, (∀ σ' H', N σ' H' → ∃ m', m' < m ∧ W (i + 1) m' σ' H') ∧ ∀ x H', (Itl K a).yld i H x H' → g x σ H' fun σ2 H2 => tb { D with nx := N, ct := N, bk := D.nx } σ2 H2)
theorem w_forL {K : PySem.W.Frag} {te : TE} {g : TG} {tb : TS} {D : Ends} {σ : St} {H : Hp} (h : te σ H fun x H1 => ∃ a, x = .ref a ∧ (∃ xs, SqL K H1 a xs) ∧ ForL K a g tb D σ H1) : tFor (iList K te) g tb D σ H := h
theorem forL_by {K : PySem.W.Frag} {a : Addr} {xs : List V} {g : TG} {tb : TS} {D : Ends} {σ : St} {H : Hp} (Pv : Nat → St → Hp → Prop) (h0 : Pv 0 σ H) (hl : ∀ i σ H, i ≤ xs.length → Pv i σ H → SqL K H a xs)
    (hs : ∀ i x σ H, xs[i]? = some x → Pv i σ H → g x σ H fun σ2 H2 => tb { D with nx := Pv (i + 1), ct := Pv (i + 1), bk := D.nx } σ2 H2) (hd : ∀ σ H, Pv xs.length σ H → D.nx σ H) : ForL K a g tb D σ H := for_list Pv h0 hl hs hd
def CompAll (J : It) (nt : Nat) (fr : List Nat) (g : TG) (c : TT) (te : TE) (σ : St) (H1 : Hp) (Q : VK) : Prop := ∀ acc, H1 acc = none → CompGoal J nt fr g c te σ H1 Q acc
theorem w_compL {K : PySem.W.Frag} {t0 te : TE} {nt : Nat} {fr : List Nat} {g : TG} {c : TT} {σ : St} {H : Hp} {Q : VK} (h : t0 σ H fun x H1 => ∃ a, x = .ref a ∧ (∃ xs, SqL K H1 a xs) ∧ CompAll (Itl K a) nt fr g c te σ H1 Q) : tComp (iList K t0) nt fr g c te σ H Q := h
theorem comp_map {J : It} {xs : List V} {Lk : Hp → Prop} {te : TE} {σ : St} {H : Hp} {Q : VK} {fr : List Nat} {fvs : St} {P : Nat → V → Prop} (it : L2.ItemsOf J xs Lk) (hz : xs.length ≤ 1000000) (hf : (fr.map fun i => (σ[i]?).getD none) = fvs) (hL : ∀ H', Same H H' → Lk H')
    (turn : ∀ (i : Nat) (v : V) (H' : Hp) (R : VK), xs[i]? = some v → Same H H' → (∀ y H2, Same H' H2 → P i y → R y H2) → te (some v :: fvs) H' R)
    (k : ∀ l H' ys, New H H' l (.lst ys) → ys.length = xs.length → (∀ (i : Nat) (y : V), ys[i]? = some y → P i y) → Q (.ref l) H') : CompAll J 1 fr (gName 0) tTrue te σ H Q := by
  intro acc hacc
  subst hf
  have nacc : ∀ b u, H b = some u → b ≠ acc := fun b u e => ne_of_none e hacc
  refine comp_by it (fun i ys H' => H' acc = some (.lst ys) ∧ Same H H' ∧ ys.length = i ∧ ∀ (j : Nat) (y : V), ys[j]? = some y → P j y) ⟨upd_same, Same.new hacc, rfl, fun j y e => by simp at e⟩ (fun i ys H' _ h => ⟨hL H' h.2.1, h.1⟩) ?_ ?_
  · rintro i x tv ys H' hx hi ⟨ha, hs, hl, hp⟩ htv
    obtain ⟨tv0, rfl⟩ : ∃ a, tv = [a] := List.length_eq_one_iff.mp htv
    unfold gName tTrue
    dsimp only
    rw [if_pos rfl]
    refine turn i x H' _ hx hs fun y H2 s2 py => ⟨?_, s2 _ _ ha, CompW.next (tv := [some x]) hi ⟨upd_same, fun b u e => ?_, by rw [List.length_append, hl]; rfl, fun j z e => ?_⟩ rfl⟩
    · rw [hl]
      exact Nat.lt_of_lt_of_le hi (small_line hz)
    · rw [upd_ne (nacc b u e)]
      exact s2 _ _ (hs _ _ e)
    · by_cases hj : j < ys.length
      · rw [List.getElem?_append_left hj] at e
        exact hp j z e
      · rw [List.getElem?_append_right (by omega)] at e
        have hj2 : j - ys.length = 0 := by
          by_cases h0 : j - ys.length = 0
          · exact h0
          · rw [List.getElem?_eq_none (by simp; omega)] at e
            cases e
        rw [hj2] at e
        cases e
        have : j = i := by omega
        rw [this]
        exact py
  · rintro ys H' ⟨ha, hs, hl, hp⟩
    exact k acc H' ys ⟨hs, ha, nacc⟩ hl hp
section
variable {X : Cx} {pins : List (Addr × Obj)} {EX : St → XK} {k m : Nat} {x : Str} {ps : List Str} {sp : Sp} {p pos apos : Pos} {e o : Expr} {es : List Expr} {t : TA} {ta : TE} {f C : Addr} {fd : FuncData} {nm : Str}
structure CMeth (K : PySem.W.Frag) (C : Addr) (m : Str) (f : Addr) : Prop where
  ga : PySem.W.specialIn K (.ref C) "__getattribute__" = some (some (.builtin "type.__getattribute__"))
  rd : PySem.W.readsIn K C (.type "type") = true
  at_ : PySem.W.findCls K (.ref C) (.type "type") m = some (.val (.ref f))
  hi : PySem.W.handedIn (.ref f) = true
  kp : PySem.W.keepIn K (.ref f) = true
end
section
variable {P : Program} {w : World} {K : PySem.W.Frag} {mg : Str → Option Value} {base : Heap} {CX : CXT} {k : Nat} {x nm qual : Str} {ps : List Str} {sp : Sp} {C : Addr}
structure Met (P : Program) (w : World) (K : PySem.W.Frag) (mg : Str → Option Value) (base : Heap) (CX : CXT) (k : Nat) (C : Addr) (nm : Str) (ps : List Str) (sp : Sp) : Prop where
  ex : ∃ (f : Addr) (fd : FuncData), FnOk P w K mg base CX k f fd ps sp ∧ Meth K C nm f ∧ Binds K fd ps []
def FnAt (K : PySem.W.Frag) (nm qual : Str) (st : Stmt) (f : Addr) : Prop := ∃ fd : FuncData, Fun K nm qual st f fd
structure FnTells (P : Program) (w : World) (K : PySem.W.Frag) (mg : Str → Option Value) (base : Heap) (CX : CXT) (k : Nat) (f : Addr) (ps : List Str) (sp : Sp) : Prop where
  ex : ∃ fd : FuncData, FnOk P w K mg base CX k f fd ps sp ∧ Binds K fd ps []
theorem FnTells.met {f : Addr} (t : FnTells P w K mg base CX k f ps sp) (m : Meth K C nm f) : Met P w K mg base CX k C nm ps sp := let ⟨fd, F, b⟩ := t.ex; ⟨f, fd, F, m, b⟩
variable {st : Stmt} {N : List Str} {f : Addr}
end
end L2
namespace L2
open PySem PySem.Spec PyProof.Rows
def Bd (k : Nat) (x : Int) : Prop := 0 ≤ x ∧ x < 2 ^ k
theorem Bd.le {k : Nat} {x y : Int} (h : Bd k x) (h0 : 0 ≤ y) (hy : y ≤ x) : Bd k y := ⟨h0, Int.lt_of_le_of_lt hy h.2⟩
def flatDt : V → Dt
  | .int i => .int i
  | .str x => .str x
  | .bl b => .bl b
  | _ => .non
def isFlat : V → Bool
  | .int _ => true
  | .str _ => true
  | .bl _ => true
  | .non => true
  | _ => false
section
variable {K : PySem.W.Frag} {H : Hp}
theorem rep_flat {v : V} (h : isFlat v = true) : Rep K H (flatDt v) v := by
  cases v <;> simp_all [isFlat, flatDt, Rep]
theorem reps_flat : ∀ {vs : List V}, (∀ v ∈ vs, isFlat v = true) → Reps K H (vs.map flatDt) vs
  | [], _ => by simp [Reps]
  | v :: vs, h => by
    simp only [List.map_cons, Reps]
    exact ⟨_, _, rfl, rep_flat (h v (List.mem_cons_self ..)), reps_flat fun x hx => h x (List.mem_cons_of_mem _ hx)⟩
theorem dep_flat : ∀ vs : List V, depDs (vs.map flatDt) = 0
  | [] => rfl
  | v :: vs => by
    have : depD (flatDt v) = 0 := by cases v <;> rfl
    simp [depDs, this, dep_flat vs]
abbrev rowDt (r : List V) : Dt := .tup (r.map flatDt)
theorem reps_rows : ∀ {rows : List (List V)} {ys : List V}, TupsAt H ys rows → (∀ r ∈ rows, ∀ v ∈ r, isFlat v = true) → Reps K H (rows.map rowDt) ys
  | [], ys, h, _ => by
    have : ys = [] := List.eq_nil_of_length_eq_zero h.1
    subst this
    simp [Reps]
  | r :: rows, [], h, _ => by simp [TupsAt] at h
  | r :: rows, y :: ys, h, hf => by
    obtain ⟨q, e, hq⟩ := h.2 0 r rfl
    cases e
    simp only [List.map_cons, Reps]
    refine ⟨_, _, rfl, ?_, reps_rows (rows := rows) (ys := ys) ⟨by simpa using h.1, fun j r' e => h.2 (j + 1) r' e⟩ fun x hx => hf x (List.mem_cons_of_mem _ hx)⟩
    simp only [Rep]
    exact ⟨q, r, rfl, SqT.of hq, reps_flat (hf r (List.mem_cons_self ..))⟩
theorem dep_rows : ∀ rows : List (List V), depDs (rows.map rowDt) ≤ 1
  | [] => by decide
  | r :: rows => by
    have h1 : depD (rowDt r) = 1 := by simp only [depD, dep_flat]
    have h2 := dep_rows rows
    simp only [List.map_cons, depDs, h1]
    omega
theorem rep_rows {p : Addr} {rows : List (List V)} {ys : List V} (hp : SqL K H p ys) (h : TupsAt H ys rows) (hf : ∀ r ∈ rows, ∀ v ∈ r, isFlat v = true) : Rep K H (.lst (rows.map rowDt)) (.ref p) := by
  simp only [Rep]
  exact ⟨p, ys, rfl, hp, reps_rows h hf⟩
theorem dep_rowsL (rows : List (List V)) : depD (.lst (rows.map rowDt)) ≤ 2 := by
  have := dep_rows rows
  simp only [depD]
  omega
theorem w_neSame {d : Dt} {x y : V} {Q : VK} (hx : Rep K H d x) (hy : Rep K H d y) (hd : depD d ≤ 100) (k : Q (.bl false) H) : rNeD K x y H Q :=
  ⟨d, d, hx, hy, hd, by rw [eqDt_refl]; exact k⟩
theorem w_eqSame {d : Dt} {x y : V} {Q : VK} (hx : Rep K H d x) (hy : Rep K H d y) (hd : depD d ≤ 100) (k : Q (.bl true) H) : rEqD K x y H Q :=
  ⟨d, d, hx, hy, hd, by rw [eqDt_refl]; exact k⟩
end
def rExtA : V → List V → Hp → VK → Prop := fun x vs H Q => ∃ l b xs zs, x = .ref l ∧ vs = [.ref b] ∧ H l = some (.lst xs) ∧ H b = some (.lst zs) ∧ xs.length + zs.length ≤ sizeLine ∧ ∀ H', Off l H H' → H' l = some (.lst (xs ++ zs)) → Q .non H'
section
variable {X : Cx}
theorem mt_extA : MtM X "list.extend" rExtA := by
  intro pins s σ H x vs v us Q I rx rv h
  obtain ⟨l, b, xs, zs, e1, e2, hH, hB, hz, q⟩ := h
  exact mt_extend pins s σ H x vs v us Q I rx rv ⟨l, b, xs, zs, e1, e2, hH, hB, hz, q _ Off.upd upd_same⟩
theorem pe_extA {o e : Expr} {to te : TE} {apos cpos : Pos} (ho : PE X o to) (he : PE X e te) (hbase : attributeBase o "extend" X.env (eval o X.env) = eval o X.env := by rfl)
    (hfew : ((backTo cpos (starEach [e] X.env)).all (fun x => !x.1) && (backToKw cpos (keywordEach [] X.env)).all (fun x => x.1.isSome)
      && decide (([e] : List Expr).length + ([] : List Keyword).length + (if ([] : List Keyword).isEmpty then 0 else 1) < 30)) = true := by rfl)
    (hline : (apos.endLine == cpos.line) = true := by rfl) (hs : starEach [e] X.env = (false, eval e X.env) :: starEach [] X.env := by rfl) :
    PE X (.Call (.Attribute o "extend" apos) [e] [] cpos) (tBM X.K "list" rExtA to (tCons te tNil)) :=
  pe_bm PySem.F.plainAttrs_list PySem.F.slot_list_extend PySem.F.type_list_extend mt_extA ho (pa_cons he pa_nil hs) hbase hfew hline hs (by rfl)
end
theorem shows_dict0 {X : Cx} {H : Hp} {p : Addr} (h : H p = some (.dK [])) : Shows X H (.ref p) (.dict []) := fun pins σ s u I r => by
  cases (show u = Value.ref p from r)
  obtain ⟨_, hs, vs, kv, o, es, ep, ho, hx, hd, hk, hp, hnd⟩ := dk_of I.hok h
  clear hnd
  cases kv
  generalize hl : es.toList = l at hp
  cases hp
  refine ⟨[p] ++ [] ++ [], .dict ho hx.1 hd (as := []) (bs := []) ?_ ?_, fun _ => ?_⟩
  · rw [hl]
    exact .nil
  · rw [hl]
    exact .nil
  · intro m
    have e : sysModules = p := by simpa using m
    rw [← e] at hs
    simp at hs
end L2
namespace L2
open PySem PySem.Spec PyProof.Rows PySem.SeqAt
section
variable {H H' : Hp} {p a l : Addr} {o u : HO}
theorem New.at (n : New H H' p o) (h : H a = some u) : H' a = some u := n.s a u h
theorem Same.at (s : Same H H') (h : H a = some u) : H' a = some u := s a u h
theorem Off.at (f : Off l H H') (ne : a ≠ l) (h : H a = some u) : H' a = some u := by rw [f a ne]; exact h
theorem Kp.at (k : Kp l H H') (ne : a ≠ l) (h : H a = some u) : H' a = some u := k a u ne h
def RowsAt (H : Hp) (p : Addr) (rows : List (List V)) : Prop := ∃ ys, H p = some (.lst ys) ∧ TupsAt H ys rows
theorem RowsAt.same {rows : List (List V)} (s : Same H H') (h : RowsAt H p rows) : RowsAt H' p rows := let ⟨ys, a, b⟩ := h; ⟨ys, s _ _ a, b.same s⟩
theorem RowsAt.off {rows : List (List V)} {zs : List V} (f : Off l H H') (ne : p ≠ l) (hl : H l = some (.lst zs)) (h : RowsAt H p rows) : RowsAt H' p rows := let ⟨ys, a, b⟩ := h; ⟨ys, f.at ne a, b.off f hl⟩
end
theorem valsInts : ∀ {ns : List Int} {us : List Value}, Vals (ns.map V.int) us → IntsAre us ns
  | [], _, .nil => .nil
  | n :: ns, _, .cons r t => by
    obtain ⟨k, rfl⟩ := r
    exact .cons n k (valsInts t)
theorem intsAre_get : ∀ {us : List Value} {ns : List Int} {i : Nat} {v : Value}, IntsAre us ns → us[i]? = some v → ∃ t, v = .int (ns.getD i 0) t
  | _, _, _, _, .nil, e => by simp at e
  | _, _, 0, _, .cons n t h, e => by
    simp at e
    exact ⟨t, e.symm⟩
  | _, _, i + 1, _, .cons n t h, e => by
    obtain ⟨t', e'⟩ := intsAre_get (i := i) h (by simpa using e)
    exact ⟨t', by rw [e']; simp⟩
theorem preSum_take (ns : List Int) : ∀ n, n ≤ ns.length → preSum (fun i => ns.getD i 0) n = (ns.take n).sum
  | 0, _ => by simp [preSum]
  | n + 1, h => by
    rw [preSum, preSum_take ns n (by omega), List.take_succ, List.sum_append]
    have : ns[n]? = some ns[n] := by simp
    rw [List.getD_eq_getElem?_getD, this]
    simp
theorem sum_bounds {ns : List Int} (h : ∀ n ∈ ns, 0 ≤ n ∧ n ≤ 1000000) : 0 ≤ ns.sum ∧ ns.sum ≤ 1000000 * (ns.length : Int) := by
  induction ns with
  | nil => simp
  | cons a t ih =>
    have h1 := h a List.mem_cons_self
    have h2 := ih fun n hn => h n (List.mem_cons_of_mem _ hn)
    rw [List.sum_cons, List.length_cons]
    omega
section
variable {X : Cx}
def rSumL (K : PySem.W.Frag) : List V → Hp → VK → Prop := fun xs H Q => ∃ (p : Addr) (ns : List Int), xs = [.ref p] ∧ SqL K H p (ns.map V.int) ∧ (∀ n ∈ ns, 0 ≤ n ∧ n ≤ 1000000) ∧ ns.length ≤ 1000000 ∧ Q (.int ns.sum) H
theorem call_sumL (hc : X.calm = true) : CallR X (.builtin "sum") (rSumL X.K) := by
  intro pins s σ H xs us Q I r h
  obtain ⟨p, ns, rfl, hq, hb, hz, q⟩ := h
  obtain ⟨u, rfl, rx⟩ := vals1 r
  cases rx
  obtain ⟨its, rv, pl, _⟩ := I.list hq
  have hi := valsInts rv
  have hn : its.length = ns.length := by have := rv.length; simpa using this.symm
  have hl := pl.isList
  have hlt : p < s.heap.objs.size := let ⟨_, e, _⟩ := hl; Heap.lt_size e
  have part : ∀ j, j ≤ ns.length → 0 ≤ (ns.take j).sum ∧ (ns.take j).sum ≤ 1000000 * 1000000 := fun j hj => by
    have b := sum_bounds (ns := ns.take j) fun n hn => hb n (List.mem_of_mem_take hn)
    have : (ns.take j).length ≤ 1000000 := by rw [List.length_take]; omega
    omega
  refine call_sum_walk (wpAny_pyIter_list hl ?_)
  refine ⟨s.heap.objs.size, [s.heap.objs.size, p], [s.heap.objs.size], its.toArray.size, _, _, fun i => ns.getD i 0, rfl, Walks.list (A := X.A.in1) (I.ok.hd hc) _ p (Nat.ne_of_lt hlt) its.toArray,
    ⟨⟨_, Heap.get?_push_size _ rfl, rfl, rfl⟩, hl.push _⟩, fun b hb' => ?_, fun i v hP => intsAre_get hi (by simpa using hP), fun j hj => ?_, fun h' tk t' hk => ?_⟩
  · rcases List.mem_cons.mp hb' with rfl | hb'
    · show _ < (s.heap.push _).objs.size
      rw [size_push']
      exact Nat.lt_succ_self _
    · rw [List.mem_singleton.mp hb']
      show _ < (s.heap.push _).objs.size
      rw [size_push']
      exact Nat.lt_succ_of_lt hlt
  · have hj' : j < ns.length := by rw [← hn]; simpa using hj
    rw [preSum_take ns (j + 1) hj']
    have b1 := part (j + 1) hj'
    have b2 := hb (ns.getD j 0) (by rw [List.getD_eq_getElem?_getD, List.getElem?_eq_getElem hj']; exact List.getElem_mem hj')
    exact ⟨⟨by show _ ≤ ns.getD j 0; omega, by show ns.getD j 0 < _; omega⟩, by omega, by omega⟩
  · rw [List.size_toArray, hn, preSum_take ns _ (Nat.le_refl _), List.take_length]
    exact ⟨.int _, H, I.kept (LSm.kept_iter hk), ⟨_, rfl⟩, q⟩
end
theorem cx_K {CX : CXT} {P : Program} {w : World} {K : PySem.W.Frag} {mg : Str → Option Value} {base : Heap} {N : List Str} {q : Str} {sc : Scope} {f : Addr} {cdv : Value} {A : Around} {outer : List Env} {s : Shared} {H : Hp} {E : XK} : (cxOf CX P w K mg base N q sc f cdv A outer s H E).nox.K = K := rfl
theorem cx_K2 {CX : CXT} {P : Program} {w : World} {K : PySem.W.Frag} {mg : Str → Option Value} {base : Heap} {N : List Str} {q : Str} {sc : Scope} {f : Addr} {cdv : Value} {A : Around} {outer : List Env} {s : Shared} {H : Hp} {E : XK} : (cxOf CX P w K mg base N q sc f cdv A outer s H E).K = K := rfl
section
variable {X : Cx} {o lo hi : Expr} {to tl th : TE} {pos p2 : Pos}
def gSlc (to tl th : TE) : TG := fun v σ H Q => to σ H fun o H1 => tl σ H1 fun a H2 => th σ H2 fun c H3 => ∃ (l b : Addr) (xs ys : List V) (i j : Int), o = .ref l ∧ v = .ref b ∧ a = .int i ∧ c = .int j ∧ H3 l = some (.lst xs) ∧ H3 b = some (.lst ys) ∧ l ≠ b ∧
  0 ≤ i ∧ i ≤ j ∧ j ≤ xs.length ∧ xs.length + ys.length ≤ sizeLine ∧ ∀ H', Off l H3 H' → H' l = some (.lst (xs.take i.toNat ++ ys ++ xs.drop j.toNat)) → Q σ H'
theorem go_slc {v : V} {σ : St} {H : Hp} {Q : St → Hp → Prop} (h : to σ H fun o H1 => tl σ H1 fun a H2 => th σ H2 fun c H3 => ∃ (l b : Addr) (xs ys : List V) (i j : Int), o = .ref l ∧ v = .ref b ∧ a = .int i ∧ c = .int j ∧ H3 l = some (.lst xs) ∧ H3 b = some (.lst ys) ∧ l ≠ b ∧
  0 ≤ i ∧ i ≤ j ∧ j ≤ xs.length ∧ xs.length + ys.length ≤ sizeLine ∧ ∀ H', Off l H3 H' → H' l = some (.lst (xs.take i.toNat ++ ys ++ xs.drop j.toNat)) → Q σ H') : gSlc to tl th v σ H Q := h
theorem w_slc {l b : Addr} {xs ys : List V} {i j : Int} {H : Hp} {R : Hp → Prop} (e1 : H l = some (.lst xs)) (e2 : H b = some (.lst ys)) (ne : l ≠ b) (h0 : 0 ≤ i) (h1 : i ≤ j) (h2 : j ≤ xs.length) (hz : xs.length + ys.length ≤ sizeLine)
    (k : ∀ H', Off l H H' → H' l = some (.lst (xs.take i.toNat ++ ys ++ xs.drop j.toNat)) → R H') : ∃ (l' b' : Addr) (xs' ys' : List V) (i' j' : Int), V.ref l = .ref l' ∧ V.ref b = .ref b' ∧ V.int i = .int i' ∧ V.int j = .int j' ∧ H l' = some (.lst xs') ∧ H b' = some (.lst ys') ∧ l' ≠ b' ∧
  0 ≤ i' ∧ i' ≤ j' ∧ j' ≤ xs'.length ∧ xs'.length + ys'.length ≤ sizeLine ∧ ∀ H', Off l' H H' → H' l' = some (.lst (xs'.take i'.toNat ++ ys' ++ xs'.drop j'.toNat)) → R H' := ⟨l, b, xs, ys, i, j, rfl, rfl, rfl, rfl, e1, e2, ne, h0, h1, h2, hz, k⟩
end
def Hs (H : Hp) (a : Addr) : Prop := ∃ u, H a = some u
section
variable {H H' : Hp} {a p l : Addr} {o u : HO}
theorem Hs.of (h : H a = some u) : Hs H a := ⟨u, h⟩
theorem New.hs (n : New H H' p o) : Hs H' p := ⟨o, n.e⟩
end
section
variable {H : Hp} {Q : VK} {K : PySem.W.Frag} {l b : Addr} {xs ys : List V} {y : V} {σ : St} {D : Ends}
theorem w_tyL {R : Prop} (h : SqL K H l xs) (k : R) : tyV K "list" (.ref l) H ∧ R := ⟨.inl ⟨rfl, _, h⟩, k⟩
theorem w_app (h : H l = some (.lst xs)) (z : xs.length < sizeLine) (k : ∀ H', Off l H H' → H' l = some (.lst (xs ++ [y])) → Q .non H') : rAppA (.ref l) [y] H Q := ⟨l, xs, y, rfl, rfl, h, z, k⟩
theorem w_ext (h : H l = some (.lst xs)) (e : H b = some (.lst ys)) (z : xs.length + ys.length ≤ sizeLine) (k : ∀ H', Off l H H' → H' l = some (.lst (xs ++ ys)) → Q .non H') : rExtA (.ref l) [.ref b] H Q := ⟨l, b, xs, ys, rfl, rfl, h, e, z, k⟩
theorem w_clr (h : H l = some (.lst xs)) (k : ∀ H', Off l H H' → H' l = some (.lst []) → Q .non H') : rClearA (.ref l) [] H Q := ⟨l, xs, rfl, rfl, h, k⟩
theorem w_slA {lo hi : Option Int} (h : SqL K H l xs) (k : ∀ p H', New H H' p (.lst (cutV xs lo hi)) → Q (.ref p) H') : rSlA K (.ref l) lo hi H Q := ⟨l, xs, rfl, h, k⟩
theorem w_catA (h : H l = some (.lst xs)) (e : H b = some (.lst ys)) (z : xs.length + ys.length ≤ sizeLine) (k : ∀ p H', New H H' p (.lst (xs ++ ys)) → Q (.ref p) H') : rCatA (.ref l) (.ref b) H Q := ⟨l, b, xs, ys, rfl, rfl, h, e, z, k⟩
theorem w_rep1 {n : Nat} (h : H l = some (.lst [y])) (z : n ≤ 1000000) (k : ∀ p H', New H H' p (.lst (List.replicate n y)) → Q (.ref p) H') : rRepA (.ref l) (.int (n : Int)) H Q :=
  ⟨l, n, [y], rfl, rfl, h, by omega, by omega, by simp only [List.length_singleton, Int.toNat_natCast, Nat.one_mul]; exact small_line z, fun p H' q => k p H' (by
    have e : (List.replicate ((n : Int).toNat) [y]).flatten = List.replicate n y := by
      rw [Int.toNat_natCast]
      clear z q k h
      induction n with
      | zero => rfl
      | succ n ih => rw [List.replicate_succ, List.flatten_cons, ih]; rfl
    rw [← e]; exact q)⟩
theorem w_lofL (h : SqL K H l xs) (k : ∀ p H', New H H' p (.lst xs) → Q (.ref p) H') : rLOfA K [.ref l] H Q := ⟨l, xs, rfl, .inl h, k⟩
theorem atL1 {x y : V} {r : List V} : atI (x :: y :: r) 1 = some y := atI_nat (j := 1) rfl
theorem i_tt {A B : Prop} (k : A) : if (true : Bool) = true then A else B := by rw [if_pos rfl]; exact k
theorem i_ff {A B : Prop} (k : B) : if (false : Bool) = true then A else B := by rw [if_neg (by decide)]; exact k
theorem i_ntt {A B : Prop} (k : B) : if (!true : Bool) = true then A else B := by rw [if_neg (by decide)]; exact k
theorem i_nff {A B : Prop} (k : A) : if (!false : Bool) = true then A else B := by rw [if_pos (by decide)]; exact k
theorem w_isTT (h : H l = some (.tup xs)) (k : Q (.bl true) H) : rIsT K [.ref l, .ty "tuple"] H Q := w_is (.tup h) (bt_tuple (.tup h)) k
theorem w_isLL (h : H l = some (.lst xs)) (k : Q (.bl true) H) : rIsT K [.ref l, .ty "list"] H Q := w_is (.lst h) (bt_list (.lst h)) k
theorem w_isIB {i : Int} (k : Q (.bl false) H) : rIsT K [.int i, .ty "bool"] H Q := w_is (TyOf.int (K := K) (H := H) i) (bt_bool (TyOf.int (K := K) (H := H) i)) k
theorem w_isBB {b : Bool} (k : Q (.bl true) H) : rIsT K [.bl b, .ty "bool"] H Q := w_is (TyOf.bl (K := K) (H := H) b) (bt_bool (TyOf.bl (K := K) (H := H) b)) k
theorem small_lt {n : Nat} (h : n < 1000000) : n < sizeLine := Nat.lt_of_lt_of_le h (small_line (Nat.le_refl _))
theorem w_tupB {n i0 i1 : Nat} {a b : V} {R : St → Hp → Prop} (hn : n = 2) (hp : SqT K H l [a, b]) (h : gName i0 a σ H fun σ1 H1 => gName i1 b σ1 H1 R) : gTup K n (gCons (gName i0) (gCons (gName i1) gNil)) (.ref l) σ H R := by
  subst hn
  exact w_tup2 hp h
theorem tups_at {rows : List (List V)} {i : Nat} {v : V} (h : TupsAt H xs rows) (e : xs[i]? = some v) : ∃ r q, rows[i]? = some r ∧ v = .ref q ∧ H q = some (.tup r) := by
  have hi : i < rows.length := by rw [← h.1]; exact (List.getElem?_eq_some_iff.mp e).1
  obtain ⟨q, e1, e2⟩ := h.2 i rows[i] (by simp)
  rw [e] at e1
  exact ⟨rows[i], q, by simp, Option.some.inj e1, e2⟩
end
section
variable {K : PySem.W.Frag} {g : TG} {tb : TS} {D : Ends} {σ : St} {H : Hp} {tr : TA}
def ForR (lo : Int) (n : Nat) (g : TG) (tb : TS) (D : Ends) (σ : St) (H : Hp) : Prop := ∃ W : Nat → Nat → St → Hp → Prop, (∃ m, W 0 m σ H) ∧ ∀ i m σ H, W i m σ H →
  ((Itr lo n).stop i H ∧ D.nx σ H) ∨ ((Itr lo n).go i H ∧ ∃ N : St → Hp → Prop, (∀ σ' H', N σ' H' → ∃ m', m' < m ∧ W (i + 1) m' σ' H') ∧ ∀ x H', (Itr lo n).yld i H x H' → g x σ H' fun σ2 H2 => tb { D with nx := N, ct := N, bk := D.nx } σ2 H2)
theorem w_forR1 (h : tr σ H fun vs H1 => ∃ j : Int, vs = [.int j] ∧ -(2 ^ 62) ≤ j ∧ j < 2 ^ 62 ∧ ForR 0 j.toNat g tb D σ H1) : tFor (iRng1 tr) g tb D σ H := h
theorem l_by {a : Addr} {xs : List V} (h : SqL K H a xs) (k : ForL K a g tb D σ H) : ∃ a', V.ref a = .ref a' ∧ (∃ xs, SqL K H a' xs) ∧ ForL K a' g tb D σ H := ⟨a, rfl, ⟨xs, h⟩, k⟩
theorem c_by {a : Addr} {xs : List V} {nt : Nat} {fr : List Nat} {c : TT} {te : TE} {Q : VK} (h : SqL K H a xs) (k : CompAll (Itl K a) nt fr g c te σ H Q) : ∃ a', V.ref a = .ref a' ∧ (∃ xs, SqL K H a' xs) ∧ CompAll (Itl K a') nt fr g c te σ H Q := ⟨a, rfl, ⟨xs, h⟩, k⟩
end
def isFr : V → Int → Bool
  | .int i, lo => decide (lo ≤ i)
  | _, _ => false
def inB : V → Int → Int → Bool
  | .int i, lo, hi => decide (lo ≤ i) && decide (i ≤ hi)
  | _, _, _ => false
section
variable {K : PySem.W.Frag} {H : Hp} {Q : VK} {E : XK} {x : V} {n : String} {p q : Addr} {a b c lo hi : Int}
def sp_whole (K : PySem.W.Frag) : Sp := fun vs H Q _ => ∃ x n, vs = [x] ∧ TyOf K H x (.type n) ∧ Q (.bl (isW x)) H
theorem u_whole (ty : TyOf K H x (.type n)) (k : Q (.bl (isW x)) H) : sp_whole K [x] H Q E := ⟨x, n, rfl, ty, k⟩
def sp_is_from (K : PySem.W.Frag) : Sp := fun vs H Q _ => ∃ x n lo, vs = [x, .int lo] ∧ TyOf K H x (.type n) ∧ Q (.bl (isFr x lo)) H
theorem u_from (ty : TyOf K H x (.type n)) (k : Q (.bl (isFr x lo)) H) : sp_is_from K [x, .int lo] H Q E := ⟨x, n, lo, rfl, ty, k⟩
theorem u_fromI (k : Q (.bl (decide (lo ≤ a))) H) : sp_is_from K [.int a, .int lo] H Q E := ⟨_, _, lo, rfl, .int _, k⟩
def sp_is_within (K : PySem.W.Frag) : Sp := fun vs H Q _ => ∃ x n lo hi, vs = [x, .int lo, .int hi] ∧ TyOf K H x (.type n) ∧ Q (.bl (inB x lo hi)) H
theorem u_within (ty : TyOf K H x (.type n)) (k : Q (.bl (inB x lo hi)) H) : sp_is_within K [x, .int lo, .int hi] H Q E := ⟨x, n, lo, hi, rfl, ty, k⟩
def sp_is_many (K : PySem.W.Frag) : Sp := fun vs H Q _ => ∃ x n, vs = [x] ∧ TyOf K H x (.type n) ∧ Q (.bl (inB x 16 240)) H
def sp_end_of : Sp := fun vs H Q _ => ∃ (q : Addr) (a b : Int), vs = [.ref q] ∧ H q = some (.tup [.int a, .int b]) ∧ Q (.int (a + b)) H
theorem u_end (h : H q = some (.tup [.int a, .int b])) (k : Q (.int (a + b)) H) : sp_end_of [.ref q] H Q E := ⟨q, a, b, rfl, h, k⟩
def rowsN (ws : List (Nat × Nat)) : List (List V) := ws.map fun w => [V.int (w.1 : Nat), V.int (w.2 : Nat)]
theorem rowsN_len (ws : List (Nat × Nat)) : (rowsN ws).length = ws.length := List.length_map ..
end
section
variable {K : PySem.W.Frag} {g : TG} {tb : TS} {D : Ends} {σ : St} {H H' : Hp} {Q : VK} {l p q : Addr} {xs ys : List V} {rows : List (List V)}
theorem forR0_by {n : Nat} (Pv : Nat → St → Hp → Prop) (h0 : Pv 0 σ H) (hs : ∀ i σ H, i < n → Pv i σ H → g (.int i) σ H fun σ2 H2 => tb { D with nx := Pv (i + 1), ct := Pv (i + 1), bk := D.nx } σ2 H2) (hd : ∀ σ H, Pv n σ H → D.nx σ H) : ForR 0 n g tb D σ H :=
  for_range Pv h0 (fun i σ H hi h => by rw [Int.zero_add]; exact hs i σ H hi h) hd
theorem TupsAt.snoc {r : List V} (h : TupsAt H ys rows) (hq : H q = some (.tup r)) : TupsAt H (ys ++ [.ref q]) (rows ++ [r]) := by
  refine ⟨by rw [List.length_append, List.length_append, h.1]; rfl, fun j s z => ?_⟩
  by_cases hj : j < rows.length
  · rw [List.getElem?_append_left hj] at z
    obtain ⟨x, e1, e2⟩ := h.2 j s z
    exact ⟨x, by rw [List.getElem?_append_left (by rw [h.1]; exact hj)]; exact e1, e2⟩
  · have hj2 : j = rows.length := by
      have := (List.getElem?_eq_some_iff.mp z).1
      rw [List.length_append, List.length_singleton] at this
      omega
    subst hj2
    rw [List.getElem?_append_right (Nat.le_refl _), Nat.sub_self] at z
    cases z
    exact ⟨q, by rw [← h.1, List.getElem?_append_right (Nat.le_refl _), Nat.sub_self]; rfl, hq⟩
theorem flat_N (ws : List (Nat × Nat)) : ∀ r ∈ rowsN ws, ∀ v ∈ r, isFlat v = true := by
  intro r hr v hv
  obtain ⟨x, _, rfl⟩ := List.mem_map.mp hr
  simp only [List.mem_cons, List.not_mem_nil, or_false] at hv
  rcases hv with rfl | rfl <;> rfl
def IsPair (H : Hp) (v : V) : Option (Nat × Nat) → Prop
  | none => v = .non
  | some w => ∃ q, v = .ref q ∧ H q = some (.tup [.int (w.1 : Nat), .int (w.2 : Nat)])
theorem IsPair.same {v : V} {o : Option (Nat × Nat)} (s : Same H H') (h : IsPair H v o) : IsPair H' v o := by
  cases o with
  | none => exact h
  | some w => obtain ⟨q, e1, e2⟩ := h; exact ⟨q, e1, s _ _ e2⟩
end
theorem comp_filter {K : PySem.W.Frag} {l : Addr} {σ : St} {H : Hp} {xs : List V} {c : TT} {Q : VK} {fr : List Nat} {fvs : St} {p : V → Bool} (hq : SqL K H l xs) (hz : xs.length ≤ 1000000) (hf : (fr.map fun i => (σ[i]?).getD none) = fvs)
    (turn : ∀ (v : V) (H' : Hp) (R : Bool → Hp → Prop), v ∈ xs → Same H H' → (∀ H2, Same H' H2 → R (p v) H2) → c (some v :: fvs) H' R)
    (k : ∀ l H', New H H' l (.lst (xs.filter p)) → Q (.ref l) H') : CompAll (Itl K l) 1 fr (gName 0) c (tVar 0) σ H Q := by
  have := go_filter (σ := σ) (H := H) (wi := fun _ H R => R (Itl K l) H) (J := Itl K l) (c := c) (Q := Q) (fr := fr) (fvs := fvs) (p := p) hz hf (items_list (K := K) (a := l) (xs := xs)) (fun R h => h) (fun H' s => s.seq hq) (fun i v H' R hv s kk => turn v H' R (List.mem_of_getElem? hv) s kk) k
  exact this
def isTup : HO → Bool
  | .tup _ => true
  | .frz _ _ => true
  | _ => false
def Tst (H H' : Hp) : Prop := ∀ q u, isTup u = true → H q = some u → H' q = some u
inductive Im where
  | tup (q : Addr) (r : List V)
  | tps (ys : List V) (rs : List (List V))
  | fct (φ : Hp → Prop) (st : ∀ H H', Tst H H' → φ H → φ H')
def Im.holds (H : Hp) : Im → Prop
  | .tup q r => H q = some (.tup r)
  | .tps ys rs => TupsAt H ys rs
  | .fct φ _ => φ H
theorem Im.stay {H H' : Hp} (t : Tst H H') : ∀ {f : Im}, f.holds H → f.holds H'
  | .tup q r, h => t q _ rfl h
  | .tps ys rs, h => ⟨h.1, fun j r e => let ⟨q, a, b⟩ := h.2 j r e; ⟨q, a, t q _ rfl b⟩⟩
  | .fct φ st, h => st H H' t h
class SH (H0 : outParam Hp) (M : outParam (List Addr)) (H : Hp) (L : outParam (List (Addr × HO))) (I : outParam (List Im)) : Prop where
  fr : ∀ b u, b ∉ M → H0 b = some u → H b = some u
  im : ∀ f ∈ I, f.holds H
  at' : ∀ c ∈ L, H c.1 = some c.2
  nd : (L.map (·.1)).Nodup
  mu : ∀ c ∈ L, isTup c.2 = false
  ch : ∀ c ∈ L, c.1 ∈ M ∨ ∀ b u, H0 b = some u → b ≠ c.1
inductive Up (l : Addr) (o' : HO) : List (Addr × HO) → List (Addr × HO) → Prop
  | head {o : HO} {L : List (Addr × HO)} : Up l o' ((l, o) :: L) ((l, o') :: L)
  | tail {c : Addr × HO} {L L' : List (Addr × HO)} (h : Up l o' L L') : Up l o' (c :: L) (c :: L')
theorem Up.keys {l : Addr} {o' : HO} {L L' : List (Addr × HO)} (h : Up l o' L L') : L'.map (·.1) = L.map (·.1) := by
  induction h with
  | head => rfl
  | tail h ih => rw [List.map_cons, List.map_cons, ih]
theorem Up.mem {l : Addr} {o' : HO} {L L' : List (Addr × HO)} (h : Up l o' L L') : l ∈ L.map (·.1) := by
  induction h with
  | head => exact List.mem_cons_self
  | tail h ih => exact List.mem_cons_of_mem _ ih
theorem Up.each {l : Addr} {o' : HO} {L L' : List (Addr × HO)} (h : Up l o' L L') (nd : (L.map (·.1)).Nodup) : ∀ c ∈ L', c = (l, o') ∨ (c ∈ L ∧ c.1 ≠ l) := by
  induction h with
  | @head o L =>
    intro c hc
    rcases List.mem_cons.mp hc with rfl | hc
    · exact .inl rfl
    · refine .inr ⟨List.mem_cons_of_mem _ hc, fun z => ?_⟩
      rw [List.map_cons] at nd
      exact (List.nodup_cons.mp nd).1 (by show l ∈ _; rw [← z]; exact List.mem_map_of_mem (f := (·.1)) hc)
  | @tail d L L' h ih =>
    intro c hc
    rw [List.map_cons] at nd
    have nd' := List.nodup_cons.mp nd
    rcases List.mem_cons.mp hc with rfl | hc
    · exact .inr ⟨List.mem_cons_self, fun z => nd'.1 (z ▸ h.mem)⟩
    · rcases ih nd'.2 c hc with e | ⟨e1, e2⟩
      · exact .inl e
      · exact .inr ⟨List.mem_cons_of_mem _ e1, e2⟩
theorem Up.src {l : Addr} {o' : HO} {L L' : List (Addr × HO)} (h : Up l o' L L') : ∃ o, (l, o) ∈ L := by
  induction h with
  | head => exact ⟨_, List.mem_cons_self⟩
  | tail h ih => obtain ⟨o, ho⟩ := ih; exact ⟨o, List.mem_cons_of_mem _ ho⟩
inductive Pk (c : Addr × HO) : List (Addr × HO) → List (Addr × HO) → Prop
  | head {L : List (Addr × HO)} : Pk c (c :: L) L
  | tail {d : Addr × HO} {L R : List (Addr × HO)} (h : Pk c L R) : Pk c (d :: L) (d :: R)
inductive Sb : List (Addr × HO) → List (Addr × HO) → Prop
  | nil {L : List (Addr × HO)} : Sb [] L
  | cons {c : Addr × HO} {L' L R : List (Addr × HO)} (h : Pk c L R) (t : Sb L' R) : Sb (c :: L') L
theorem Pk.mem {c : Addr × HO} {L R : List (Addr × HO)} (h : Pk c L R) : c ∈ L ∧ ∀ d ∈ R, d ∈ L := by
  induction h with
  | head => exact ⟨List.mem_cons_self, fun d hd => List.mem_cons_of_mem _ hd⟩
  | tail h ih =>
    refine ⟨List.mem_cons_of_mem _ ih.1, fun d hd => ?_⟩
    rcases List.mem_cons.mp hd with rfl | hd
    · exact List.mem_cons_self
    · exact List.mem_cons_of_mem _ (ih.2 d hd)
theorem Pk.nd {c : Addr × HO} {L R : List (Addr × HO)} (h : Pk c L R) (nd : (L.map (·.1)).Nodup) : (R.map (·.1)).Nodup ∧ ∀ d ∈ R, d.1 ≠ c.1 := by
  induction h with
  | head =>
    rw [List.map_cons] at nd
    have := List.nodup_cons.mp nd
    exact ⟨this.2, fun d hd z => this.1 (z ▸ List.mem_map_of_mem hd)⟩
  | @tail d L R h ih =>
    rw [List.map_cons] at nd
    have nd' := List.nodup_cons.mp nd
    obtain ⟨i1, i2⟩ := ih nd'.2
    refine ⟨by
      rw [List.map_cons, List.nodup_cons]
      refine ⟨fun z => ?_, i1⟩
      obtain ⟨x, hx, ex⟩ := List.mem_map.mp z
      exact nd'.1 (ex ▸ List.mem_map_of_mem (h.mem.2 x hx)), fun x hx => ?_⟩
    rcases List.mem_cons.mp hx with rfl | hx
    · exact fun z => nd'.1 (z ▸ List.mem_map_of_mem h.mem.1)
    · exact i2 x hx
theorem Sb.mem {L' L : List (Addr × HO)} (h : Sb L' L) : ∀ c ∈ L', c ∈ L := by
  induction h with
  | nil => intro c hc; cases hc
  | cons h t ih =>
    intro c hc
    rcases List.mem_cons.mp hc with rfl | hc
    · exact h.mem.1
    · exact h.mem.2 c (ih c hc)
theorem Sb.nd {L' L : List (Addr × HO)} (h : Sb L' L) : (L.map (·.1)).Nodup → (L'.map (·.1)).Nodup := by
  induction h with
  | nil => intro _; exact List.nodup_nil
  | cons h t ih =>
    intro nd
    obtain ⟨n1, n2⟩ := h.nd nd
    rw [List.map_cons, List.nodup_cons]
    refine ⟨fun z => ?_, ih n1⟩
    obtain ⟨x, hx, ex⟩ := List.mem_map.mp z
    exact n2 x (t.mem x hx) ex
section
variable {H0 H H' : Hp} {M : List Addr} {L L' : List (Addr × HO)} {I I' : List Im} {p q l a : Addr} {o o' u : HO} {xs ys r : List V} {rs : List (List V)} {K : PySem.W.Frag}
theorem SH.nil : SH H M H [] [] := ⟨fun _ _ _ h => h, (fun _ h => by cases h), (fun _ h => by cases h), List.nodup_nil, (fun _ h => by cases h), (fun _ h => by cases h)⟩
theorem SH.addT (F : SH H0 M H L I) (h : H q = some (.tup r)) : SH H0 M H L (.tup q r :: I) := ⟨F.fr, fun f hf => by
  rcases List.mem_cons.mp hf with rfl | hf
  · exact h
  · exact F.im f hf, F.at', F.nd, F.mu, F.ch⟩
theorem SH.addP (F : SH H0 M H L I) (h : TupsAt H ys rs) : SH H0 M H L (.tps ys rs :: I) := ⟨F.fr, fun f hf => by
  rcases List.mem_cons.mp hf with rfl | hf
  · exact h
  · exact F.im f hf, F.at', F.nd, F.mu, F.ch⟩
theorem SH.same (F : SH H0 M H L I) (s : Same H H') : SH H0 M H' L I := ⟨fun b u n e => s b u (F.fr b u n e), fun f hf => Im.stay (fun q u _ e => s q u e) (F.im f hf), fun c hc => s _ _ (F.at' c hc), F.nd, F.mu, F.ch⟩
theorem SH.newT (F : SH H0 M H L I) (n : New H H' q (.tup r)) : SH H0 M H' L (.tup q r :: I) := (F.same n.s).addT n.e
theorem SH.newO (F : SH H0 M H L I) (n : New H H' p o) (ht : isTup o = false) : SH H0 M H' ((p, o) :: L) I := by
  have F' := F.same n.s
  refine ⟨F'.fr, F'.im, ?_, ?_, ?_, ?_⟩
  · intro c hc
    rcases List.mem_cons.mp hc with rfl | hc
    · exact n.e
    · exact F'.at' c hc
  · rw [List.map_cons, List.nodup_cons]
    refine ⟨fun z => ?_, F.nd⟩
    obtain ⟨x, hx, ex⟩ := List.mem_map.mp z
    exact n.n _ _ (F.at' x hx) ex
  · intro c hc
    rcases List.mem_cons.mp hc with rfl | hc
    · exact ht
    · exact F.mu c hc
  · intro c hc
    rcases List.mem_cons.mp hc with rfl | hc
    · by_cases hm : p ∈ M
      · exact .inl hm
      · exact .inr fun b u e z => by
          by_cases hb : b ∈ M
          · exact hm (by have z' : b = p := z; rw [← z']; exact hb)
          · exact n.n b u (F.fr b u hb e) z
    · exact F.ch c hc
theorem SH.newL (F : SH H0 M H L I) (n : New H H' p (.lst xs)) : SH H0 M H' ((p, .lst xs) :: L) I := F.newO n rfl
theorem SH.newR (F : SH H0 M H L I) (n : New H H' p (.lst ys)) (t : TupsAt H' ys rs) : SH H0 M H' ((p, .lst ys) :: L) (.tps ys rs :: I) := (F.newL n).addP t
theorem SH.kp (F : SH H0 M H L I) (k : Kp l H H') (e : H' l = some o') (u : Up l o' L L') (ht : isTup o' = false := by rfl) : SH H0 M H' L' I := by
  obtain ⟨o, ho⟩ := u.src
  have hl := F.at' _ ho
  have hu := F.mu _ ho
  refine ⟨fun b w nb e0 => k b w (fun z => ?_) (F.fr b w nb e0), fun f hf => Im.stay (fun q v hv e1 => k q _ (fun z => ?_) e1) (F.im f hf), fun c hc => ?_, by rw [u.keys]; exact F.nd, fun c hc => ?_, fun c hc => ?_⟩
  · rcases F.ch _ ho with h | h
    · exact nb (by rw [z]; exact h)
    · exact h b w e0 z
  · rw [z, hl] at e1
    cases e1
    rw [hu] at hv
    cases hv
  · rcases u.each F.nd c hc with rfl | ⟨h1, h2⟩
    · exact e
    · exact k _ _ h2 (F.at' c h1)
  · rcases u.each F.nd c hc with rfl | ⟨h1, h2⟩
    · exact ht
    · exact F.mu c h1
  · rcases u.each F.nd c hc with rfl | ⟨h1, h2⟩
    · exact F.ch (l, o) ho
    · exact F.ch c h1
theorem SH.off (F : SH H0 M H L I) (f : Off l H H') (e : H' l = some o') (u : Up l o' L L') (ht : isTup o' = false := by rfl) : SH H0 M H' L' I := F.kp f.kp e u ht
theorem SH.offL (F : SH H0 M H L I) (f : Off l H H') (e : H' l = some (.lst xs)) (u : Up l (.lst xs) L L') : SH H0 M H' L' I := F.kp f.kp e u rfl
theorem SH.raw (F : SH H0 M H L I) (m : (a, o) ∈ L) : H a = some o := F.at' _ m
theorem SH.tup (F : SH H0 M H L I) (m : .tup q r ∈ I) : H q = some (.tup r) := F.im _ m
theorem SH.tps (F : SH H0 M H L I) (m : .tps ys rs ∈ I) : TupsAt H ys rs := F.im _ m
theorem SH.sq (F : SH H0 M H L I) (h : SqL K H0 a xs) (n : a ∉ M) : SqL K H a xs := by
  rcases h with (h | ⟨o, h⟩) | h
  · exact .inl (.inl (F.fr a _ n h))
  · exact .inl (.inr ⟨o, F.fr a _ n h⟩)
  · exact .inr h
theorem SH.sub (F : SH H0 M H L I) (s : Sb L' L) (t : ∀ f ∈ I', f ∈ I) : SH H0 M H L' I' := ⟨F.fr, fun f hf => F.im f (t f hf), fun c hc => F.at' c (s.mem c hc), s.nd F.nd, fun c hc => F.mu c (s.mem c hc), fun c hc => F.ch c (s.mem c hc)⟩
theorem SH.sm (F : SH H0 [] H L I) : Same H0 H := fun b u e => F.fr b u List.not_mem_nil e
theorem SH.nw (F : SH H0 [] H L I) (m : (q, o) ∈ L) : New H0 H q o := ⟨F.sm, F.at' _ m, fun b u e => by
  rcases F.ch _ m with h | h
  · exact absurd h List.not_mem_nil
  · exact h b u e⟩
theorem SH.fresh (F : SH H0 M H L I) (m : (q, o) ∈ L) (n : q ∉ M) : ∀ b u, H0 b = some u → b ≠ q := fun b u e => by
  rcases F.ch _ m with h | h
  · exact absurd h n
  · exact h b u e
theorem nm0 : a ∉ ([] : List Addr) := List.not_mem_nil
end
class Go (G : Prop) (G' : outParam Prop) : Prop where
  go : G' → G
theorem go1 {G G' : Prop} [h : Go G G'] (k : G') : G := h.go k
class LkL (L : List (Addr × HO)) (a : Addr) (o : outParam HO) : Prop where
  m : (a, o) ∈ L
class LkI (I : List Im) (a : Addr) (r : outParam (List V)) : Prop where
  m : .tup a r ∈ I
class LkP (I : List Im) (ys : List V) (rs : outParam (List (List V))) : Prop where
  m : .tps ys rs ∈ I
class LkU (L : List (Addr × HO)) (l : Addr) (o : HO) (L' : outParam (List (Addr × HO))) : Prop where
  u : Up l o L L'
class Old (H0 : Hp) (M : List Addr) (a : Addr) (o : outParam HO) : Prop where
  e : H0 a = some o
  n : a ∉ M
class OldQ (K : PySem.W.Frag) (H0 : Hp) (M : List Addr) (a : Addr) (xs : outParam (List V)) : Prop where
  e : SqL K H0 a xs
  n : a ∉ M
class OldP (H0 : Hp) (ys : List V) (rs : outParam (List (List V))) : Prop where
  e : TupsAt H0 ys rs
class Hat (H : Hp) (a : Addr) (o : outParam HO) : Prop where
  e : H a = some o
class SqA (K : PySem.W.Frag) (H : Hp) (a : Addr) (xs : outParam (List V)) : Prop where
  e : SqL K H a xs
class SqB (K : PySem.W.Frag) (H : Hp) (a : Addr) (xs : outParam (List V)) : Prop where
  e : SqT K H a xs
class TpA (H : Hp) (ys : List V) (rs : outParam (List (List V))) : Prop where
  e : TupsAt H ys rs
class AtI (xs : List V) (i : Int) (v : outParam V) : Prop where
  e : atI xs i = some v
section
variable {H0 H H' : Hp} {M : List Addr} {L L' : List (Addr × HO)} {I : List Im} {a p l : Addr} {o o' : HO} {c : Addr × HO} {f : Im} {r xs ys : List V} {rs : List (List V)} {K : PySem.W.Frag} {v v0 v1 v2 v3 : V}
instance lkL1 [h : LkL L a o] : LkL (c :: L) a o := ⟨List.mem_cons_of_mem _ h.m⟩
instance lkL0 : LkL ((a, o) :: L) a o := ⟨List.mem_cons_self⟩
instance lkI1 [h : LkI I a r] : LkI (f :: I) a r := ⟨List.mem_cons_of_mem _ h.m⟩
instance lkI0 : LkI (.tup a r :: I) a r := ⟨List.mem_cons_self⟩
instance lkP1 [h : LkP I ys rs] : LkP (f :: I) ys rs := ⟨List.mem_cons_of_mem _ h.m⟩
instance lkP0 : LkP (.tps ys rs :: I) ys rs := ⟨List.mem_cons_self⟩
instance lkU1 [h : LkU L l o L'] : LkU (c :: L) l o (c :: L') := ⟨.tail h.u⟩
instance lkU0 : LkU ((l, o') :: L) l o ((l, o) :: L) := ⟨.head⟩
instance hat_old [F : SH H0 M H L I] [h : Old H0 M a o] : Hat H a o := ⟨F.fr a o h.n h.e⟩
instance hat_tup [F : SH H0 M H L I] [h : LkI I a r] : Hat H a (.tup r) := ⟨F.tup h.m⟩
instance hat_lst [F : SH H0 M H L I] [h : LkL L a o] : Hat H a o := ⟨F.raw h.m⟩
instance sqA_old [F : SH H0 M H L I] [h : OldQ K H0 M a xs] : SqA K H a xs := ⟨F.sq h.e h.n⟩
instance sqA_hat [h : Hat H a (.lst xs)] : SqA K H a xs := ⟨.of h.e⟩
instance sqB_hat [h : Hat H a (.tup xs)] : SqB K H a xs := ⟨.of h.e⟩
instance tpA_old {H0 : Hp} {L : List (Addr × HO)} {I : List Im} [F : SH H0 [] H L I] [h : OldP H0 ys rs] : TpA H ys rs := ⟨h.e.same F.sm⟩
instance tpA_tps [F : SH H0 M H L I] [h : LkP I ys rs] : TpA H ys rs := ⟨F.tps h.m⟩
instance at0 : AtI (v :: r) 0 v := ⟨atI_0⟩
instance at1 : AtI (v0 :: v :: r) 1 v := ⟨atL1⟩
variable {Z : Addr → Hp → Prop} {R : Hp → Prop} {C dx : Addr} {fs : List (Str × V)}
instance nx_tup [F : SH H0 M H L I] : Go (∀ p H', New H H' p (.tup xs) → Z p H') (∀ H' p, SH H0 M H' L (.tup p xs :: I) → Z p H') := ⟨fun k p H' n => k H' p (F.newT n)⟩
instance nx_lst [F : SH H0 M H L I] : Go (∀ p H', New H H' p (.lst xs) → Z p H') (∀ H' p, SH H0 M H' ((p, .lst xs) :: L) I → Z p H') := ⟨fun k p H' n => k H' p (F.newL n)⟩
instance nx_off [F : SH H0 M H L I] [u : LkU L l (.lst xs) L'] : Go (∀ H', Off l H H' → H' l = some (.lst xs) → R H') (∀ H', SH H0 M H' L' I → R H') := ⟨fun k H' f e => k H' (F.offL f e u.u)⟩
instance nx_same [F : SH H0 M H L I] : Go (∀ H', Same H H' → R H') (∀ H', SH H0 M H' L I → R H') := ⟨fun k H' s => k H' (F.same s)⟩
def Sd (A B : Prop) : Prop := A ∧ B
theorem sd {A B : Prop} (a : A) (b : B) : Sd A B := ⟨a, b⟩
class FLk (fs : List (Str × V)) (f : Str) (v : outParam V) : Prop where
  e : fs.lookup f = some v
theorem SH.nwC {H0 : Hp} {L : List (Addr × HO)} {I : List Im} [F : SH H0 [] H L I] [h : LkL L p o] : New H0 H p o := F.nw h.m
theorem hatC [h : Hat H a o] : H a = some o := h.e
variable {Q : VK} {E : XK} {R' : Prop} {σ : St} {i j : Int} {f m : Str} {y : V} {b : Addr} {lo hi : Option Int}
instance go_made {n : Nat} : Go (n ≤ sizeLine ∧ ∀ p H', New H H' p o → Z p H') (Sd (n ≤ sizeLine) (∀ p H', New H H' p o → Z p H')) := ⟨id⟩
instance go_isTT [h : Hat H l (.tup xs)] : Go (rIsT K [.ref l, .ty "tuple"] H Q) (Q (.bl true) H) := ⟨w_isTT h.e⟩
instance go_isLL [h : Hat H l (.lst xs)] : Go (rIsT K [.ref l, .ty "list"] H Q) (Q (.bl true) H) := ⟨w_isLL h.e⟩
instance go_lenT [h : SqB K H l xs] : Go (rLen K [.ref l] H Q) (Q (.int xs.length) H) := ⟨w_lenT h.e⟩
instance go_lenL [h : SqA K H l xs] : Go (rLen K [.ref l] H Q) (Q (.int xs.length) H) := ⟨w_lenL h.e⟩
instance go_ixL [h : SqA K H l xs] [e : AtI xs i v] : Go (rIxL K (.ref l) (.int i) H Q) (Q v H) := ⟨w_ixL h.e e.e⟩
instance go_ixT [h : SqB K H l xs] [e : AtI xs i v] : Go (rIxT K (.ref l) (.int i) H Q) (Q v H) := ⟨w_ixT h.e e.e⟩
instance go_tyL [h : SqA K H l xs] : Go (tyV K "list" (.ref l) H ∧ R') R' := ⟨w_tyL h.e⟩
instance go_clr [h : Hat H l (.lst xs)] : Go (rClearA (.ref l) [] H Q) (∀ H', Off l H H' → H' l = some (.lst []) → Q .non H') := ⟨w_clr h.e⟩
instance go_app [h : Hat H l (.lst xs)] : Go (rAppA (.ref l) [y] H Q) (Sd (xs.length < sizeLine) (∀ H', Off l H H' → H' l = some (.lst (xs ++ [y])) → Q .non H')) := ⟨fun s => w_app h.e s.1 s.2⟩
instance go_ext [h : Hat H l (.lst xs)] [h2 : Hat H b (.lst ys)] : Go (rExtA (.ref l) [.ref b] H Q) (Sd (xs.length + ys.length ≤ sizeLine) (∀ H', Off l H H' → H' l = some (.lst (xs ++ ys)) → Q .non H')) := ⟨fun s => w_ext h.e h2.e s.1 s.2⟩
instance go_slA [h : SqA K H l xs] : Go (rSlA K (.ref l) lo hi H Q) (∀ p H', New H H' p (.lst (cutV xs lo hi)) → Q (.ref p) H') := ⟨w_slA h.e⟩
instance go_catA [h : Hat H l (.lst xs)] [h2 : Hat H b (.lst ys)] : Go (rCatA (.ref l) (.ref b) H Q) (Sd (xs.length + ys.length ≤ sizeLine) (∀ p H', New H H' p (.lst (xs ++ ys)) → Q (.ref p) H')) := ⟨fun s => w_catA h.e h2.e s.1 s.2⟩
instance go_lofL [h : SqA K H l xs] : Go (rLOfA K [.ref l] H Q) (∀ p H', New H H' p (.lst xs) → Q (.ref p) H') := ⟨w_lofL h.e⟩
instance go_rep1 {n : Nat} [h : Hat H l (.lst [y])] : Go (rRepA (.ref l) (.int (n : Int)) H Q) (Sd (n ≤ 1000000) (∀ p H', New H H' p (.lst (List.replicate n y)) → Q (.ref p) H')) := ⟨fun s => w_rep1 h.e s.1 s.2⟩
instance go_tup2 {n i0 i1 : Nat} {a b : V} {R : St → Hp → Prop} [h : SqB K H l [a, b]] : Go (gTup K n (gCons (gName i0) (gCons (gName i1) gNil)) (.ref l) σ H R) (Sd (n = 2) (gName i0 a σ H fun σ1 H1 => gName i1 b σ1 H1 R)) := ⟨fun s => w_tupB s.1 h.e s.2⟩
instance go_mod {f : Int → Int → V} : Go (rI (fun _ j => 0 < j) f (.int i) (.int j) H Q) (Sd (0 < j) (Q (f i j) H)) := ⟨fun s => w_mod s.1 s.2⟩
instance go_div {f : Int → Int → V} : Go (rI CDiv f (.int i) (.int j) H Q) (Sd (0 < j ∧ j < 1073741824) (Q (f i j) H)) := ⟨fun s => w_div s.1.1 s.1.2 s.2⟩
instance go_pow {f : Int → Int → V} : Go (rI CPow f (.int i) (.int j) H Q) (Sd (0 ≤ j ∧ j ≤ 1000000 ∧ i.natAbs < 2 ^ 64) (Q (f i j) H)) := ⟨fun s => w_pow s.1.1 s.1.2.1 s.1.2.2 s.2⟩
instance go_mul {f : Int → Int → V} : Go (rI CMul f (.int i) (.int j) H Q) (Sd ((-(2 ^ 64) < i ∧ i < 2 ^ 64) ∨ (-(2 ^ 64) < j ∧ j < 2 ^ 64)) (Q (f i j) H)) := ⟨fun s => s.1.elim (fun h => w_mulL h.1 h.2 s.2) (fun h => w_mulR h.1 h.2 s.2)⟩
end
instance go_go_seq {σ : L2.St} {H : Hp} {D : Ends} {s u : TS} : Go (tSeq s u D σ H) (s (Ends.mk (u D) (Ends.rt D) (Ends.bk D) (Ends.ct D)) σ H) := ⟨go_seq⟩
instance go_go_asg {σ : L2.St} {H : Hp} {t : TE} {D : Ends} {tg : TG} : Go (tAsg t tg D σ H) ((t σ H fun (x : V) (H1 : Hp) ↦ tg x σ H1 (Ends.nx D))) := ⟨go_asg⟩
instance go_go_ret {σ : L2.St} {H : Hp} {t : TE} {D : Ends} : Go (tRet t D σ H) (t σ H (Ends.rt D)) := ⟨go_ret⟩
instance go_go_if {σ : L2.St} {H : Hp} {D : Ends} {s u : TS} {c : TT} : Go (tIfS c s u D σ H) ((c σ H fun (b : Bool) (H1 : Hp) ↦ if b = true then s D σ H1 else u D σ H1)) := ⟨go_if⟩
instance go_go_drop {σ : L2.St} {H : Hp} {t : TE} {D : Ends} : Go (tDrop t D σ H) ((t σ H fun (x : V) (H1 : Hp) ↦ Ends.nx D σ H1)) := ⟨go_drop⟩
instance go_go_next {σ : L2.St} {H : Hp} {D : Ends} : Go (tNext D σ H) (Ends.nx D σ H) := ⟨go_next⟩
instance go_go_nx {σ : L2.St} {H : Hp} {nx bk ct : L2.St → Hp → Prop} {rt : VK} : Go (Ends.nx (Ends.mk nx rt bk ct) σ H) (nx σ H) := ⟨go_nx⟩
instance go_w_rt {H : Hp} {v : V} {nx bk ct : L2.St → Hp → Prop} {rt : VK} : Go (Ends.rt (Ends.mk nx rt bk ct) v H) (rt v H) := ⟨w_rt⟩
instance go_go_test {σ : L2.St} {H : Hp} {t : TE} {Q : Bool → Hp → Prop} : Go (tTest t σ H Q) ((t σ H fun (x : V) (H' : Hp) ↦ ∃ (k : Bool), x = V.bl k ∧ Q k H')) := ⟨go_test⟩
instance go_go_b {σ : L2.St} {H : Hp} {t : TE} {Q : Bool → Hp → Prop} : Go (tB t σ H Q) ((t σ H fun (x : V) (H' : Hp) ↦ ∃ (k : Bool), x = V.bl k ∧ Q k H')) := ⟨go_b⟩
instance go_go_op {σ : L2.St} {H : Hp} {ta tb : TE} {Q : VK} {r : R2} : Go (tOp r ta tb σ H Q) ((ta σ H fun (x : V) (H1 : Hp) ↦ tb σ H1 fun (y : V) (H2 : Hp) ↦ r x y H2 Q)) := ⟨go_op⟩
instance go_go_cb {σ : L2.St} {H : Hp} {tr : TA} {Q : VK} {r : List V → Hp → VK → Prop} : Go (tCB r tr σ H Q) ((tr σ H fun (vs : List V) (H1 : Hp) ↦ r vs H1 Q)) := ⟨go_cb⟩
instance go_go_cons {σ : L2.St} {H : Hp} {t : TE} {tr : TA} {Q : List V → Hp → Prop} : Go (tCons t tr σ H Q) ((t σ H fun (x : V) (H1 : Hp) ↦ tr σ H1 fun (xs : List V) (H2 : Hp) ↦ Q (x :: xs) H2)) := ⟨go_cons⟩
instance go_go_nil {σ : L2.St} {H : Hp} {Q : List V → Hp → Prop} : Go (tNil σ H Q) (Q [] H) := ⟨go_nil⟩
instance go_w_call {σ : L2.St} {H : Hp} {Q : VK} {tr : TA} {sp : Sp} {E : XK} : Go (tCall sp [] E tr σ H Q) ((tr σ H fun (vs : List V) (H1 : Hp) ↦ sp vs H1 Q E)) := ⟨w_call⟩
instance go_w_c {σ : L2.St} {H : Hp} {Q : VK} {v : V} : Go (tC v σ H Q) (Q v H) := ⟨w_c⟩
instance go_wv0 {H : Hp} {Q : VK} {v : V} {r : L2.St} : Go (tVar 0 (some v :: r) H Q) (Q v H) := ⟨wv0⟩
instance go_wv1 {H : Hp} {Q : VK} {v : V} {o0 : Option V} {r : L2.St} : Go (tVar 1 (o0 :: some v :: r) H Q) (Q v H) := ⟨wv1⟩
instance go_wv2 {H : Hp} {Q : VK} {v : V} {o0 o1 : Option V} {r : L2.St} : Go (tVar 2 (o0 :: o1 :: some v :: r) H Q) (Q v H) := ⟨wv2⟩
instance go_wv3 {H : Hp} {Q : VK} {v : V} {o0 o1 o2 : Option V} {r : L2.St} : Go (tVar 3 (o0 :: o1 :: o2 :: some v :: r) H Q) (Q v H) := ⟨wv3⟩
instance go_wv4 {H : Hp} {Q : VK} {v : V} {o0 o1 o2 o3 : Option V} {r : L2.St} : Go (tVar 4 (o0 :: o1 :: o2 :: o3 :: some v :: r) H Q) (Q v H) := ⟨wv4⟩
instance go_wv5 {H : Hp} {Q : VK} {v : V} {o0 o1 o2 o3 o4 : Option V} {r : L2.St} : Go (tVar 5 (o0 :: o1 :: o2 :: o3 :: o4 :: some v :: r) H Q) (Q v H) := ⟨wv5⟩
instance go_wv6 {H : Hp} {Q : VK} {v : V} {o0 o1 o2 o3 o4 o5 : Option V} {r : L2.St} : Go (tVar 6 (o0 :: o1 :: o2 :: o3 :: o4 :: o5 :: some v :: r) H Q) (Q v H) := ⟨wv6⟩
instance go_wv7 {H : Hp} {Q : VK} {v : V} {o0 o1 o2 o3 o4 o5 o6 : Option V} {r : L2.St} : Go (tVar 7 (o0 :: o1 :: o2 :: o3 :: o4 :: o5 :: o6 :: some v :: r) H Q) (Q v H) := ⟨wv7⟩
instance go_wv8 {H : Hp} {Q : VK} {v : V} {o0 o1 o2 o3 o4 o5 o6 o7 : Option V} {r : L2.St} : Go (tVar 8 (o0 :: o1 :: o2 :: o3 :: o4 :: o5 :: o6 :: o7 :: some v :: r) H Q) (Q v H) := ⟨wv8⟩
instance go_wv9 {H : Hp} {Q : VK} {v : V} {o0 o1 o2 o3 o4 o5 o6 o7 o8 : Option V} {r : L2.St} : Go (tVar 9 (o0 :: o1 :: o2 :: o3 :: o4 :: o5 :: o6 :: o7 :: o8 :: some v :: r) H Q) (Q v H) := ⟨wv9⟩
instance go_wv10 {H : Hp} {Q : VK} {v : V} {o0 o1 o2 o3 o4 o5 o6 o7 o8 o9 : Option V} {r : L2.St} : Go (tVar 10 (o0 :: o1 :: o2 :: o3 :: o4 :: o5 :: o6 :: o7 :: o8 :: o9 :: some v :: r) H Q) (Q v H) := ⟨wv10⟩
instance go_wv11 {H : Hp} {Q : VK} {v : V} {o0 o1 o2 o3 o4 o5 o6 o7 o8 o9 o10 : Option V} {r : L2.St} : Go (tVar 11 (o0 :: o1 :: o2 :: o3 :: o4 :: o5 :: o6 :: o7 :: o8 :: o9 :: o10 :: some v :: r) H Q) (Q v H) := ⟨wv11⟩
instance go_wn1 {H : Hp} {v : V} {o0 o : Option V} {r : L2.St} {R : L2.St → Hp → Prop} : Go (gName 1 v (o0 :: o :: r) H R) (R (o0 :: some v :: r) H) := ⟨wn1⟩
instance go_wn2 {H : Hp} {v : V} {o0 o1 o : Option V} {r : L2.St} {R : L2.St → Hp → Prop} : Go (gName 2 v (o0 :: o1 :: o :: r) H R) (R (o0 :: o1 :: some v :: r) H) := ⟨wn2⟩
instance go_wn3 {H : Hp} {v : V} {o0 o1 o2 o : Option V} {r : L2.St} {R : L2.St → Hp → Prop} : Go (gName 3 v (o0 :: o1 :: o2 :: o :: r) H R) (R (o0 :: o1 :: o2 :: some v :: r) H) := ⟨wn3⟩
instance go_wn4 {H : Hp} {v : V} {o0 o1 o2 o3 o : Option V} {r : L2.St} {R : L2.St → Hp → Prop} : Go (gName 4 v (o0 :: o1 :: o2 :: o3 :: o :: r) H R) (R (o0 :: o1 :: o2 :: o3 :: some v :: r) H) := ⟨wn4⟩
instance go_wn5 {H : Hp} {v : V} {o0 o1 o2 o3 o4 o : Option V} {r : L2.St} {R : L2.St → Hp → Prop} : Go (gName 5 v (o0 :: o1 :: o2 :: o3 :: o4 :: o :: r) H R) (R (o0 :: o1 :: o2 :: o3 :: o4 :: some v :: r) H) := ⟨wn5⟩
instance go_wn6 {H : Hp} {v : V} {o0 o1 o2 o3 o4 o5 o : Option V} {r : L2.St} {R : L2.St → Hp → Prop} : Go (gName 6 v (o0 :: o1 :: o2 :: o3 :: o4 :: o5 :: o :: r) H R) (R (o0 :: o1 :: o2 :: o3 :: o4 :: o5 :: some v :: r) H) := ⟨wn6⟩
instance go_wn7 {H : Hp} {v : V} {o0 o1 o2 o3 o4 o5 o6 o : Option V} {r : L2.St} {R : L2.St → Hp → Prop} : Go (gName 7 v (o0 :: o1 :: o2 :: o3 :: o4 :: o5 :: o6 :: o :: r) H R) (R (o0 :: o1 :: o2 :: o3 :: o4 :: o5 :: o6 :: some v :: r) H) := ⟨wn7⟩
instance go_wn8 {H : Hp} {v : V} {o0 o1 o2 o3 o4 o5 o6 o7 o : Option V} {r : L2.St} {R : L2.St → Hp → Prop} : Go (gName 8 v (o0 :: o1 :: o2 :: o3 :: o4 :: o5 :: o6 :: o7 :: o :: r) H R) (R (o0 :: o1 :: o2 :: o3 :: o4 :: o5 :: o6 :: o7 :: some v :: r) H) := ⟨wn8⟩
instance go_wn9 {H : Hp} {v : V} {o0 o1 o2 o3 o4 o5 o6 o7 o8 o : Option V} {r : L2.St} {R : L2.St → Hp → Prop} : Go (gName 9 v (o0 :: o1 :: o2 :: o3 :: o4 :: o5 :: o6 :: o7 :: o8 :: o :: r) H R) (R (o0 :: o1 :: o2 :: o3 :: o4 :: o5 :: o6 :: o7 :: o8 :: some v :: r) H) := ⟨wn9⟩
instance go_wn10 {H : Hp} {v : V} {o0 o1 o2 o3 o4 o5 o6 o7 o8 o9 o : Option V} {r : L2.St} {R : L2.St → Hp → Prop} : Go (gName 10 v (o0 :: o1 :: o2 :: o3 :: o4 :: o5 :: o6 :: o7 :: o8 :: o9 :: o :: r) H R) (R (o0 :: o1 :: o2 :: o3 :: o4 :: o5 :: o6 :: o7 :: o8 :: o9 :: some v :: r) H) := ⟨wn10⟩
instance go_wn11 {H : Hp} {v : V} {o0 o1 o2 o3 o4 o5 o6 o7 o8 o9 o10 o : Option V} {r : L2.St} {R : L2.St → Hp → Prop} : Go (gName 11 v (o0 :: o1 :: o2 :: o3 :: o4 :: o5 :: o6 :: o7 :: o8 :: o9 :: o10 :: o :: r) H R) (R (o0 :: o1 :: o2 :: o3 :: o4 :: o5 :: o6 :: o7 :: o8 :: o9 :: o10 :: some v :: r) H) := ⟨wn11⟩
instance go_w_i0 {H : Hp} {Q : VK} {i j : Int} {f : Int → Int → V} : Go (rI0 f (V.int i) (V.int j) H Q) (Q (f i j) H) := ⟨w_i0⟩
instance go_w_u {H : Hp} {Q : VK} {i : Int} {g : Int → V} : Go (rU g (V.int i) H Q) (Q (g i) H) := ⟨w_u⟩
instance go_w_un {σ : L2.St} {H : Hp} {Q : VK} {ta : TE} {r : V → Hp → VK → Prop} : Go (tUn r ta σ H Q) ((ta σ H fun (x : V) (H1 : Hp) ↦ r x H1 Q)) := ⟨w_un⟩
instance go_w_eqi {H : Hp} {Q : VK} {i j : Int} : Go (rEq (V.int i) (V.int j) H Q) (Q (V.bl (decide (i = j))) H) := ⟨w_eqi⟩
instance go_w_nei {H : Hp} {Q : VK} {i j : Int} : Go (rNe (V.int i) (V.int j) H Q) (Q (V.bl !decide (i = j)) H) := ⟨w_nei⟩
instance go_w_bl {k : Bool} {R : Bool → Prop} : Go (∃ (c : Bool), V.bl k = V.bl c ∧ R c) (R k) := ⟨w_bl⟩
instance go_w_not {σ : L2.St} {H : Hp} {c : TT} {R : Bool → Hp → Prop} : Go (tNot c σ H R) ((c σ H fun (b : Bool) (H1 : Hp) ↦ R (!b) H1)) := ⟨w_not⟩
instance go_w_and {σ : L2.St} {H : Hp} {c d : TT} {R : Bool → Hp → Prop} : Go (tAnd c d σ H R) ((c σ H fun (b : Bool) (H1 : Hp) ↦ if b = true then d σ H1 R else R false H1)) := ⟨w_and⟩
instance go_w_or {σ : L2.St} {H : Hp} {c d : TT} {R : Bool → Hp → Prop} : Go (tOr c d σ H R) ((c σ H fun (b : Bool) (H1 : Hp) ↦ if b = true then R true H1 else d σ H1 R)) := ⟨w_or⟩
instance go_w_notV {σ : L2.St} {H : Hp} {Q : VK} {ta : TE} : Go (tNotV ta σ H Q) ((ta σ H fun (x : V) (H1 : Hp) ↦ ∃ (c : Bool), x = V.bl c ∧ Q (V.bl !c) H1)) := ⟨w_notV⟩
instance go_w_andV {σ : L2.St} {H : Hp} {Q : VK} {ta tb : TE} : Go (tAndV ta tb σ H Q) ((ta σ H fun (x : V) (H1 : Hp) ↦ ∃ (c : Bool), x = V.bl c ∧ if c = true then tb σ H1 Q else Q (V.bl false) H1)) := ⟨w_andV⟩
instance go_w_bm {σ : L2.St} {H : Hp} {Q : VK} {K : W.Frag} {tr : TA} {T : String} {r : V → List V → Hp → VK → Prop} {to : TE} : Go (tBM K T r to tr σ H Q) ((to σ H fun (x : V) (H1 : Hp) ↦ tyV K T x H1 ∧ tr σ H1 fun (xs : List V) (H2 : Hp) ↦ r x xs H2 Q)) := ⟨w_bm⟩
instance go_w_bm0 {σ : L2.St} {H : Hp} {Q : VK} {K : W.Frag} {T : String} {r : V → List V → Hp → VK → Prop} {to : TE} : Go (tBM0 K T r to σ H Q) ((to σ H fun (x : V) (H1 : Hp) ↦ tyV K T x H1 ∧ r x [] H1 Q)) := ⟨w_bm0⟩
instance go_w_slice {σ : L2.St} {H : Hp} {Q : VK} {t : TE} {r : V → Option Int → Option Int → Hp → VK → Prop} {tl th : TO} : Go (tSl r t tl th σ H Q) ((t σ H fun (x : V) (H1 : Hp) ↦ tl σ H1 fun (l : Option Int) (H2 : Hp) ↦ th σ H2 fun (u : Option Int) (H3 : Hp) ↦ r x l u H3 Q)) := ⟨w_slice⟩
instance go_w_noPart {σ : L2.St} {H : Hp} {R : Option Int → Hp → Prop} : Go (tNoPart σ H R) (R none H) := ⟨w_noPart⟩
instance go_w_part {σ : L2.St} {H : Hp} {t : TE} {R : Option Int → Hp → Prop} : Go (tPart t σ H R) ((t σ H fun (x : V) (H1 : Hp) ↦ ∃ (i : Int), x = V.int i ∧ R (some i) H1)) := ⟨w_part⟩
instance go_w_int {i : Int} {R : Int → Prop} : Go (∃ (k : Int), V.int i = V.int k ∧ R k) (R i) := ⟨w_int⟩
instance go_w_max {H : Hp} {Q : VK} {i j : Int} : Go (rMax2 [V.int i, V.int j] H Q) (Q (V.int (max i j)) H) := ⟨w_max⟩
instance go_go_tupA {σ : L2.St} {H : Hp} {tr : TA} {Q : VK} : Go (tTupA tr σ H Q) ((tr σ H fun (xs : List V) (H1 : Hp) ↦ List.length xs ≤ sizeLine ∧ ∀ (p : Addr) (H' : Hp), New H1 H' p (HO.tup xs) → Q (V.ref p) H')) := ⟨go_tupA⟩
instance go_go_lstA {σ : L2.St} {H : Hp} {tr : TA} {Q : VK} : Go (tLstA tr σ H Q) ((tr σ H fun (xs : List V) (H1 : Hp) ↦ List.length xs ≤ sizeLine ∧ ∀ (p : Addr) (H' : Hp), New H1 H' p (HO.lst xs) → Q (V.ref p) H')) := ⟨go_lstA⟩
instance go_w_revSl {σ : L2.St} {H : Hp} {Q : VK} {K : W.Frag} {te ts : TE} : Go (tRevSl K te ts σ H Q) ((te σ H fun (x : V) (H1 : Hp) ↦ ts σ H1 fun (y : V) (H2 : Hp) ↦ ∃ (a : Addr), ∃ (xs : List V), x = V.ref a ∧ y = V.int (-1) ∧ SqL K H2 a xs ∧ ∀ (p : Addr) (H' : Hp), New H2 H' p (HO.lst (List.reverse xs)) → Q (V.ref p) H')) := ⟨w_revSl⟩
instance go_w_isIB {H : Hp} {Q : VK} {K : W.Frag} {i : Int} : Go (rIsT K [V.int i, V.ty "bool"] H Q) (Q (V.bl false) H) := ⟨w_isIB⟩
instance go_w_isBB {H : Hp} {Q : VK} {K : W.Frag} {b : Bool} : Go (rIsT K [V.bl b, V.ty "bool"] H Q) (Q (V.bl true) H) := ⟨w_isBB⟩
instance go_i_tt {A B : Prop} : Go (if true = true then A else B) (A) := ⟨i_tt⟩
instance go_i_ff {A B : Prop} : Go (if false = true then A else B) (B) := ⟨i_ff⟩
instance go_i_ntt {A B : Prop} : Go (if (!true) = true then A else B) (B) := ⟨i_ntt⟩
instance go_i_nff {A B : Prop} : Go (if (!false) = true then A else B) (A) := ⟨i_nff⟩
instance go_go_slc {to tl th : TE} {v : V} {σ : L2.St} {H : Hp} {Q : L2.St → Hp → Prop} : Go (gSlc to tl th v σ H Q) ((to σ H fun (o : V) (H1 : Hp) ↦ tl σ H1 fun (a : V) (H2 : Hp) ↦ th σ H2 fun (c : V) (H3 : Hp) ↦ ∃ (l : Addr), ∃ (b : Addr), ∃ (xs : List V), ∃ (ys : List V), ∃ (i : Int), ∃ (j : Int), o = V.ref l ∧ v = V.ref b ∧ a = V.int i ∧ c = V.int j ∧ H3 l = some (HO.lst xs) ∧ H3 b = some (HO.lst ys) ∧ l ≠ b ∧ 0 ≤ i ∧ i ≤ j ∧ j ≤ (↑(List.length xs) : Int) ∧ List.length xs + List.length ys ≤ sizeLine ∧ ∀ (H' : Hp), L2.Off l H3 H' → H' l = some (HO.lst (List.take (Int.toNat i) xs ++ ys ++ List.drop (Int.toNat j) xs)) → Q σ H')) := ⟨go_slc⟩
instance go_w_forR1 {g : TG} {tb : TS} {D : Ends} {σ : L2.St} {H : Hp} {tr : TA} : Go (tFor (iRng1 tr) g tb D σ H) ((tr σ H fun (vs : List V) (H1 : Hp) ↦ ∃ (j : Int), vs = [V.int j] ∧ -2 ^ 62 ≤ j ∧ j < 2 ^ 62 ∧ ForR 0 (Int.toNat j) g tb D σ H1)) := ⟨w_forR1⟩
instance go_w_forL {K : W.Frag} {te : TE} {g : TG} {tb : TS} {D : Ends} {σ : L2.St} {H : Hp} : Go (tFor (iList K te) g tb D σ H) ((te σ H fun (x : V) (H1 : Hp) ↦ ∃ (a : Addr), x = V.ref a ∧ (∃ (xs : List V), SqL K H1 a xs) ∧ ForL K a g tb D σ H1)) := ⟨w_forL⟩
instance go_w_compL {K : W.Frag} {t0 te : TE} {nt : Nat} {fr : List Nat} {g : TG} {c : TT} {σ : L2.St} {H : Hp} {Q : VK} : Go (tComp (iList K t0) nt fr g c te σ H Q) ((t0 σ H fun (x : V) (H1 : Hp) ↦ ∃ (a : Addr), x = V.ref a ∧ (∃ (xs : List V), SqL K H1 a xs) ∧ CompAll (Itl K a) nt fr g c te σ H1 Q)) := ⟨w_compL⟩
section
variable {K : PySem.W.Frag} {H : Hp} {Q : VK} {E : XK} {x : V} {n : String} {p q : Addr} {a b c lo hi : Int} {ns : List Int} {m : Int}
instance go_fromI : Go (sp_is_from K [.int a, .int lo] H Q E) (Q (.bl (decide (lo ≤ a))) H) := ⟨u_fromI⟩
instance go_manyI : Go (sp_is_many K [.int a] H Q E) (Q (.bl (decide (16 ≤ a) && decide (a ≤ 240))) H) := ⟨fun k => ⟨_, _, rfl, .int _, k⟩⟩
instance go_endof [h : Hat H q (.tup [.int a, .int b])] : Go (sp_end_of [.ref q] H Q E) (Q (.int (a + b)) H) := ⟨u_end h.e⟩
end
end L2
namespace L2
open PySem PySem.Spec PyProof.Rows
section
variable {tr : TA} {g : TG} {tb : TS} {D : Ends} {σ : St} {H : Hp}
variable {K : PySem.W.Frag} {a : Addr} {xs : List V} {nt : Nat} {fr : List Nat} {c : TT} {te : TE} {Q : VK} {n m : Int}
instance go_cby [h : SqA K H a xs] : Go (∃ a', V.ref a = .ref a' ∧ (∃ xs, SqL K H a' xs) ∧ CompAll (Itl K a') nt fr g c te σ H Q) (CompAll (Itl K a) nt fr g c te σ H Q) := ⟨c_by h.e⟩
instance go_lby [h : SqA K H a xs] : Go (∃ a', V.ref a = .ref a' ∧ (∃ xs, SqL K H a' xs) ∧ ForL K a' g tb D σ H) (ForL K a g tb D σ H) := ⟨l_by h.e⟩
end
instance nx_rowsN {H0 H : Hp} {M : List Addr} {L : List (Addr × HO)} {I : List Im} {Z : Addr → Hp → Prop} {ws : List (Nat × Nat)} [F : SH H0 M H L I] : Go (∀ p ys H', New H H' p (.lst ys) → TupsAt H' ys (rowsN ws) → Z p H') (∀ H' p ys, ys.length = ws.length → SH H0 M H' ((p, .lst ys) :: L) (.tps ys (rowsN ws) :: I) → Z p H') := ⟨fun k p ys H' n t => k H' p ys (by rw [t.1, rowsN_len]) (F.newR n t)⟩
class LkNe (L : List (Addr × HO)) (a b : Addr) : Prop where
  ne : (L.map (·.1)).Nodup → a ≠ b
section
variable {L R L' : List (Addr × HO)} {a b : Addr} {o : HO} {c : Addr × HO} {H0 H : Hp} {M : List Addr} {I : List Im}
instance lkNe1 {o' : HO} [h : LkL L a o] : LkNe ((b, o') :: L) a b := ⟨fun nd z => by
  rw [List.map_cons] at nd
  exact (List.nodup_cons.mp nd).1 (by show b ∈ _; rw [← z]; exact List.mem_map_of_mem (f := (·.1)) h.m)⟩
class PkC (c : Addr × HO) (L : List (Addr × HO)) (R : outParam (List (Addr × HO))) : Prop where
  p : Pk c L R
class SbC (L' L : List (Addr × HO)) : Prop where
  s : Sb L' L
instance pkC1 {d : Addr × HO} [h : PkC c L R] : PkC c (d :: L) (d :: R) := ⟨.tail h.p⟩
instance pkC0 : PkC c (c :: L) L := ⟨.head⟩
instance sbC0 : SbC [] L := ⟨.nil⟩
instance sbC1 [h : PkC c L R] [t : SbC L' R] : SbC (c :: L') L := ⟨.cons h.p t.s⟩
end
end L2
namespace L2
open PySem PySem.Spec PyProof.Rows PySem.SeqAt
section
variable {X : Cx} {o lo hi : Expr} {to tl th : TE} {pos p2 : Pos}
theorem pg_slc2 (ho : PE X o to) (hl : PE X lo tl) (hh : PE X hi th)
    (ha : ∀ v, assign (.Subscript o (.Slice (some lo) (some hi) none p2) pos) X.env v = (do
      let ov ← holding [v] (eval o X.env)
      let iv ← holding [v, ov] (eval (.Slice (some lo) (some hi) none p2) X.env)
      standAt pos
      holding [v, ov, iv] (setItem ov iv v)
      release [iv, v, ov] []) := by intro _; rfl) : PG X (.Subscript o (.Slice (some lo) (some hi) none p2) pos) (gSlc to tl th) := by
  intro pins s σ H v u Q I r h
  rw [ha]
  refine wpAny_bind (wpAny_holding (thn (ho pins s σ H _ I h) fun ov s1 ⟨x, H1, I1, r1, q1⟩ => ?_))
  refine wpAny_bind (wpAny_holding (wpAny_Slice (wpAny_evalPart_some (thn (hl pins s1 σ H1 _ I1 q1) fun a s2 ⟨y, H2, I2, r2, q2⟩ => wpAny_evalPart_some (thn (hh pins s2 σ H2 _ I2 q2) fun c s3 ⟨z, H3, I3, r3, q3⟩ => wpAny_evalPart_none ?_)))))
  obtain ⟨l, b, xs, ys, i, j, rfl, rfl, rfl, rfl, e1, e2, ne, h0, h1, h2, hz, q⟩ := q3
  cases r1
  cases r
  have I4 : Inv X pins σ H3 { s3 with heap := s3.heap.push { cls := .type "slice", data := .fields #[a, c, .none] } } := I3.kept (t' := s3.toks) fun b ob z => Heap.get?_push_of_some _ z
  refine wpAny_bind (wpAny_standAt (wpAny_bind (wpAny_holding (set_slice I4 e1 e2 ne (Heap.IsSliceOf.new ..) r2 r3 h0 h1 h2 hz fun s5 I5 => ?_))))
  exact wpAny_release ⟨σ, _, I5, q _ Off.upd upd_same⟩
end
section
variable {K : PySem.W.Frag} {H0 H : Hp} {M : List Addr} {L L' : List (Addr × HO)} {I : List Im} {l b a p : Addr} {xs ys r : List V} {v v0 v1 y : V} {Q : VK} {R : Hp → Prop} {R' : Prop} {te : TE} {fvs σ : St} {fr : List Nat} {i j : Int} {Z : Addr → Hp → Prop}
instance go_slcC [h : Hat H l (.lst xs)] [h2 : Hat H b (.lst ys)] [F : SH H0 M H L I] [n : LkNe L l b] : Go (∃ (l' b' : Addr) (xs' ys' : List V) (i' j' : Int), V.ref l = .ref l' ∧ V.ref b = .ref b' ∧ V.int i = .int i' ∧ V.int j = .int j' ∧ H l' = some (.lst xs') ∧ H b' = some (.lst ys') ∧ l' ≠ b' ∧
    0 ≤ i' ∧ i' ≤ j' ∧ j' ≤ xs'.length ∧ xs'.length + ys'.length ≤ sizeLine ∧ ∀ H', Off l' H H' → H' l' = some (.lst (xs'.take i'.toNat ++ ys' ++ xs'.drop j'.toNat)) → R H')
    (Sd (0 ≤ i ∧ i ≤ j ∧ j ≤ xs.length ∧ xs.length + ys.length ≤ 1000000) (∀ H', Off l H H' → H' l = some (.lst (xs.take i.toNat ++ ys ++ xs.drop j.toNat)) → R H')) :=
  ⟨fun s => w_slc h.e h2.e (n.ne F.nd) s.1.1 s.1.2.1 s.1.2.2.1 (small_line s.1.2.2.2) s.2⟩
instance go_forR1 {g : TG} {tb : TS} {D : Ends} : Go (∃ j : Int, [V.int i] = [.int j] ∧ -(2 ^ 62) ≤ j ∧ j < 2 ^ 62 ∧ ForR 0 j.toNat g tb D σ H) (Sd (-(2 ^ 62) ≤ i ∧ i < 2 ^ 62) (ForR 0 i.toNat g tb D σ H)) := ⟨fun s => ⟨i, rfl, s.1.1, s.1.2, s.2⟩⟩
end
end L2
namespace L2
open PySem PySem.Spec PyProof.Rows
abbrev ixBody (x : Str) (p1 p2 p3 : Pos) (j : Nat) : Expr := .Subscript (.Name x p1) (.Constant (.int 1) j p2) p3
structure LamScope (x : Str) (scope : Scope) : Prop where
  kind : scope.kind = .function
  co : scope.isCoroutine = false
  gen : scope.isGenerator = false
  loc : scope.names.lookup x = some .local
  nocell : ∀ y ∈ scope.names, y.2 ≠ .cell
  nodeb : (x == ("__debug__" : Str)) = false
theorem ObjOk.is {P : Program} {w : World} {H : Hp} {h : Heap} {a : Addr} {o : HO} (x : ObjOk P w H h a o) : ∃ ob, h.get? a = some ob := by
  cases o with
  | lst xs => obtain ⟨_, _, _, _, e⟩ := x; exact ⟨_, e⟩
  | tup xs => obtain ⟨_, _, _, ob, e, _⟩ := x; exact ⟨_, e⟩
  | dK kvs => obtain ⟨_, _, _, _, ob, _, _, e, _⟩ := x; exact ⟨_, e⟩
  | dT kvs => obtain ⟨_, _, _, _, ob, _, _, e, _⟩ := x; exact ⟨_, e⟩
  | set S n => obtain ⟨ob, _, _, _, e, _⟩ := x; exact ⟨_, e⟩
  | ins C dx fs => obtain ⟨_, _, _, e, _⟩ := x; exact ⟨_, e⟩
  | own y => exact x
  | xd fs => obtain ⟨_, ⟨ob, _, _, e, _⟩, _⟩ := x; exact ⟨_, e⟩
  | rng lo hi => obtain ⟨_, _, _, e⟩ := x; exact ⟨_, e⟩
  | frz ob u => exact ⟨_, x.1⟩
  | tbl ps => exact ⟨_, x⟩
  | met f y => exact ⟨_, x⟩
  | ext φ => exact x.2.1
def IsLam (H : Hp) (f : Addr) : Prop := ∃ (qual x : Str) (params : Arguments) (p1 p2 p3 : Pos) (j : Nat) (scope : Scope) (pm ctv : Value) (c' : Addr) (oc : Obj) (vs : Array Value) (t : Tok),
  H f = some (.frz (PySem.W.kla_obj "<lambda>" qual params (ixBody x p1 p2 p3 j) scope [] pm c' ctv) (.own f)) ∧ H c' = some (.frz oc (.own c')) ∧ oc.data = .fields vs ∧ vs[1]? = some (.str qual t) ∧ LamScope x scope ∧
  ∀ q : Addr, bindArgs (PySem.W.kla_fn "<lambda>" qual params (ixBody x p1 p2 p3 j) scope [] pm (.ref c') ctv) ⟨[.ref q], []⟩ = pure [(x, .ref q)]
def TabOk (pos : Pos) (qual : Str) (ps : Array Value) (H : Hp) : Prop := ps = #[] ∨ ∃ (c' : Addr) (oc : Obj) (vs : Array Value) (t : Tok), ps = #[rawInt pos.line, rawInt pos.col, .ref c'] ∧ H c' = some (.frz oc (.own c')) ∧ oc.data = .fields vs ∧ vs[1]? = some (.str qual t)
end L2
namespace L2
open PySem PySem.Spec PyProof.Rows PySem.SeqAt
section
variable {K : PySem.W.Frag} {H0 H : Hp} {M : List Addr} {L L' : List (Addr × HO)} {I : List Im} {l P f : Addr} {xs ys : List V} {v y : V} {Q : VK} {R : Hp → Prop} {te th : TE} {σ : St} {i : Int} {cs ds : List Nat} {j c : Nat} {pos : Pos} {qual : Str} {ps : Array Value}
theorem TabOk.st : ∀ H H', Tst H H' → TabOk pos qual ps H → TabOk pos qual ps H' := fun H H' t h => by
  rcases h with h | ⟨c', oc, vs, t', e, e1, e2⟩
  · exact .inl h
  · exact .inr ⟨c', oc, vs, t', e, t _ _ rfl e1, e2⟩
theorem IsLam.st : ∀ H H', Tst H H' → IsLam H f → IsLam H' f := fun H H' t h => by
  obtain ⟨a1, a2, a3, a4, a5, a6, a7, a8, a9, a10, a11, a12, a13, a14, e1, e2, r⟩ := h
  exact ⟨a1, a2, a3, a4, a5, a6, a7, a8, a9, a10, a11, a12, a13, a14, t _ _ rfl e1, t _ _ rfl e2, r⟩
end
def isLow (c : Nat) : Bool := decide (97 ≤ c) && decide (c ≤ 122)
def isFig (c : Nat) : Bool := decide (48 ≤ c) && decide (c ≤ 57)
structure NameOk (cs : List Nat) : Prop where
  lo : 1 ≤ cs.length
  hi : cs.length ≤ 8
  hd : ∀ c, cs[0]? = some c → isLow c = true
  all : ∀ c ∈ cs, (isLow c || isFig c) = true
structure Rw where
  nm : List Nat
  st : Nat
  sz : Nat
  pn : Nat
structure GoodR (n : Nat) (r : Rw) : Prop where
  nm : NameOk r.nm
  sz : 1 ≤ r.sz
  le : r.st + r.sz ≤ n
def Apart (r s : Rw) : Prop := r.nm ≠ s.nm ∧ (r.st + r.sz ≤ s.st ∨ s.st + s.sz ≤ r.st)
theorem Apart.symm {r s : Rw} (h : Apart r s) : Apart s r := ⟨fun z => h.1 z.symm, h.2.elim .inr .inl⟩
def Asc (rs : List Rw) : Prop := rs.Pairwise fun r s => r.st + r.sz ≤ s.st
theorem Asc.lt {n : Nat} {rs : List Rw} (h : Asc rs) (g : ∀ r ∈ rs, GoodR n r) : rs.Pairwise fun r s => r.st < s.st := by
  refine List.Pairwise.imp_of_mem ?_ h
  intro a b ha hb hab
  have := (g a ha).sz
  omega
end L2
namespace L2
open PySem PySem.Spec PyProof.Rows
end L2
namespace L2
open PySem PySem.W PySem.Spec PyProof.Rows
section
variable {n : Nat} {rk : Nat → Int} {α β : Type}
def Pp (n : Nat) (p : Array Nat) : Prop := p.Perm (List.range n).toArray
theorem Pp.size {p : Array Nat} (h : Pp n p) : p.size = n := by
  have := h.size_eq
  simpa using this
theorem Pp.lt {p : Array Nat} (h : Pp n p) {k : Nat} (hk : k < n) : p.getD k 0 < n := by
  have hs := h.size
  have e : p.getD k 0 = p[k]'(by omega) := by rw [Array.getD_eq_getD_getElem?, Array.getElem?_eq_getElem (by omega)]; rfl
  rw [e]
  have := (Array.perm_iff_toList_perm.mp h).mem_iff.mp (show p[k]'(by omega) ∈ p.toList by simp)
  simpa using this
theorem Pp.ne {p : Array Nat} (h : Pp n p) {a b : Nat} (ha : a < n) (hb : b < n) (hab : a ≠ b) : p.getD a 0 ≠ p.getD b 0 := by
  have hs := h.size
  have e : ∀ k (hk : k < n), p.getD k 0 = p.toList[k]'(by simpa [hs] using hk) := fun k hk => by
    rw [Array.getD_eq_getD_getElem?, Array.getElem?_eq_getElem (by omega)]
    rfl
  have nd : p.toList.Nodup := (Array.perm_iff_toList_perm.mp h).nodup_iff.mpr (by simpa using List.nodup_range)
  rw [e a ha, e b hb]
  intro z
  exact hab ((List.getElem_inj nd).mp z)
end
end L2
namespace L2
open PySem PySem.W PySem.Calls PySem.Spec PyProof.Rows
end L2
namespace L2
open PySem PySem.Spec PyProof.Rows PySem.SeqAt
end L2
namespace L2
open PySem PySem.W PySem.Spec PyProof.Rows
section
variable {CX : CXT} {P : Program} {w : World} {K : PySem.W.Frag} {mg : Str → Option Value} {base : Heap} {k m : Nat} {x : Str} {ps : List Str} {sp : Sp} {ds : List Value} {dvs : List V}
structure DefD (P : Program) (w : World) (K : PySem.W.Frag) (mg : Str → Option Value) (base : Heap) (CX : CXT) (k : Nat) (x : Str) (ps : List Str) (sp : Sp) (ds : List Value) : Prop where
  ex : ∃ (f : Addr) (fd : FuncData), FnOk P w K mg base CX k f fd ps sp ∧ mg x = some (.ref f) ∧ PySem.W.keepIn K (.ref f) = true ∧ Binds K fd ps [] ∧ Binds K fd ps ds
theorem DefD.all (D : DefD P w K mg base CX k x ps sp ds) : Def P w K mg base CX k x ps sp :=
  let ⟨f, fd, F, a, b, c, _⟩ := D.ex
  ⟨f, fd, F, a, b, c⟩
end
end L2
namespace L2
open PySem PySem.Spec PyProof.Rows PySem.SeqAt
section
variable {K : PySem.W.Frag} {H : Hp} {Q : VK} {σ : St} {t : TE} {ts : List TE} {a b cs : List Nat} {c n : Nat} {ps : List (List Nat)} {p l q : Addr} {xs ys r : List V} {lo hi : Option Int} {R : Str → Prop} {S : Int → Prop} {v v0 v1 v2 v3 v4 v5 : V} {i : Int} {z : Str} {bb : Bool}
instance go_isNr : Go (rIsN (.ref p) .non H Q) (Q (.bl false) H) := ⟨fun k => ⟨rfl, k⟩⟩
instance go_isNn : Go (rIsN .non .non H Q) (Q (.bl true) H) := ⟨fun k => ⟨rfl, k⟩⟩
end
end L2
namespace L2
open PySem PySem.W PySem.Calls PySem.Spec PyProof.Rows
end L2
namespace L2
open PySem PySem.Spec PyProof.Rows PySem.SeqAt
theorem cx_s0 {CX : CXT} {P : Program} {w : World} {K : PySem.W.Frag} {mg : Str → Option Value} {base : Heap} {N : List Str} {qual : Str} {scope : Scope} {f : Addr} {cd : Value} {A : Around} {outer : List Env} {s : Shared} {H : Hp} {E : XK} : (cxOf CX P w K mg base N qual scope f cd A outer s H E).s₀ = s := rfl
def tEX (th : THd) (D : Ends) : St → XK := fun σ cv dx H => ∃ C, cv = .ref C ∧ ∀ a, H a = none → th D C a dx σ (upd H a (excT a C dx))
class ExA (H : Hp) (a : Addr) (C : outParam Addr) (fs : outParam (List (Str × V))) : Prop where
  e : ExcT H a C fs
class ExM (K : PySem.W.Frag) (C d : Addr) (b : outParam Bool) : Prop where
  e : PySem.W.exmOne K (.ref C) (.ref d) = some b
def RaiseG2 (n : Nat) (C : Addr) (H0 : Hp) (E : XK) (f g : Str) (vs : List V) (H1 : Hp) : Prop := ∃ v y, vs = [v, y] ∧ ∀ z H', n ≤ z → H1 z = none → Same H1 H' → ExcAt H' z C (putF g y [(f, v)]) → ∃ a dx, V.ref z = .ref a ∧ n ≤ a ∧ H0 a = none ∧ H' a = some (excO a C dx) ∧ E (.ref C) dx (del H' a)
section
variable {K : PySem.W.Frag} {H H0 : Hp} {M : List Addr} {L : List (Addr × HO)} {I : List Im} {Q : VK} {σ : St} {D : Ends} {th rest : THd} {tbE : (St → XK) → TS} {t : TA} {ta : TE} {sp : Sp} {EX : St → XK} {E : XK} {C d a : Addr} {dx : Option Addr} {fs : List (Str × V)} {f g m : Str} {v y : V} {n : Nat} {ts : Addr → TS} {b : Bool}
instance go_tryI : Go (tTry (fun _ EX => tbE EX) th D σ H) (tbE (tEX th D) D σ H) := ⟨fun h _ => h⟩
instance go_raised [F : SH H0 M H L I] : Go (∀ dx H', Same H H' → H' dx = some (dctO dx fs) → tEX th D σ (.ref C) (some dx) H') (∀ (H' : Hp) (a dx : Addr), SH H0 M H' L I → ExcT H' a C fs → th D C a (some dx) σ H') := ⟨fun k dx H' s e => ⟨C, rfl, fun a ha => k _ a dx ((F.same s).same (Same.new ha)) (ExcT.mk e ha)⟩⟩
instance go_callxI : Go (tCallx EX sp t σ H Q) (t σ H fun vs H1 => sp vs H1 Q (EX σ)) := ⟨id⟩
instance go_raise2I : Go (tRaise C H0 n E (tEx2N n C f g t) D σ H) (t σ H fun vs H1 => RaiseG2 n C H0 E f g vs H1) := ⟨fun h => h⟩
instance go_rg2 [F : SH H0 [] H L I] : Go (RaiseG2 n C H0 E f g [v, y] H) (Sd (f ≠ g) (∀ dx H2, Same H H2 → H2 dx = some (dctO dx [(f, v), (g, y)]) → E (.ref C) (some dx) H2)) := ⟨fun k => ⟨v, y, rfl, fun z H' hn hz s e => go_raise (by simp) hn hz (F.sm.free hz) s (by
    have e2 : putF g y [(f, v)] = [(f, v), (g, y)] := by simp [putF, k.1]
    rw [← e2]
    exact e) k.2⟩⟩
instance go_exfI : Go (tExFT C ta f σ H Q) (ta σ H fun x H1 => ∃ a fs v, x = .ref a ∧ ExcT H1 a C fs ∧ fs.lookup f = some v ∧ Q v H1) := ⟨id⟩
instance go_exf2 [h : ExA H a C fs] [e : FLk fs f v] {R : V → Prop} : Go (∃ a' fs' v', V.ref a = .ref a' ∧ ExcT H a' C fs' ∧ fs'.lookup f = some v' ∧ R v') (R v) := ⟨fun k => ⟨a, fs, v, rfl, h.e, e.e, k⟩⟩
instance flk0 {r : List (Str × V)} : FLk ((f, v) :: r) f v := ⟨by simp [List.lookup]⟩
instance go_fgtR {i : Nat} : Go (Ends.rt (Ends.forget D i) v H) (Ends.rt D v H) := ⟨fun h => h⟩
instance go_hAs3 {o0 o1 o2 o : Option V} {r : St} [e : ExM K C d true] : Go (hAs K d 3 ts rest D C a dx (o0 :: o1 :: o2 :: o :: r) H) (ts a (D.forget 3) (o0 :: o1 :: o2 :: some (.ref a) :: r) H) := ⟨fun h => go_caught e.e h⟩
end
end L2
namespace L2
open PySem PySem.W PySem.Spec PyProof.Rows
end L2
namespace L2
open PySem PySem.Spec PyProof.Rows
end L2
namespace L2
open PySem PySem.W PySem.Calls PySem.Spec PyProof.Rows
end L2
namespace L2
open PySem PySem.Spec PyProof.Rows PySem.SeqAt
class TyA (K : PySem.W.Frag) (H : Hp) (v : V) (n : outParam String) : Prop where
  e : TyOf K H v (.type n)
class OldT (K : PySem.W.Frag) (H0 : Hp) (M : List Addr) (v : V) (n : outParam String) : Prop where
  e : TyOf K H0 v (.type n)
  n : ∀ a, v = .ref a → a ∉ M
theorem TyOf.kept {K : PySem.W.Frag} {H H' : Hp} {v : V} {t : Value} (h : TyOf K H v t) (k : ∀ a u, v = .ref a → H a = some u → H' a = some u) : TyOf K H' v t := by
  cases h with
  | non => exact .non
  | bl b => exact .bl b
  | int i => exact .int i
  | str x => exact .str x
  | flt x => exact .flt x
  | lst e => exact .lst (k _ _ rfl e)
  | frz e => exact .frz (k _ _ rfl e)
  | tup e => exact .tup (k _ _ rfl e)
  | dK e => exact .dK (k _ _ rfl e)
  | dT e => exact .dT (k _ _ rfl e)
  | ins e a b c d f => exact .ins (k _ _ rfl e) a b c d f
section
variable {K : PySem.W.Frag} {H0 H : Hp} {M : List Addr} {L : List (Addr × HO)} {I : List Im} {v : V} {n : String} {a : Addr} {xs : List V} {b : Bool} {i lo hi : Int} {z : Str} {kvs : List (Key × V)} {Q : VK} {E : XK}
instance ty_int : TyA K H (.int i) "int" := ⟨.int i⟩
instance (priority := low) ty_old [F : SH H0 M H L I] [h : OldT K H0 M v n] : TyA K H v n := ⟨h.e.kept fun a u e hu => F.fr a u (h.n a e) hu⟩
instance (priority := low) go_isI [t : TyA K H v n] : Go (rIsT K [v, .ty "int"] H Q) (Q (.bl (isIB v)) H) := ⟨fun k => w_is t.e (bt_int t.e) k⟩
instance (priority := low) go_wholeV [t : TyA K H v n] : Go (sp_whole K [v] H Q E) (Q (.bl (isW v)) H) := ⟨u_whole t.e⟩
instance (priority := low) go_fromV [t : TyA K H v n] : Go (sp_is_from K [v, .int lo] H Q E) (Q (.bl (isFr v lo)) H) := ⟨u_from t.e⟩
end
def EqVV (x y : V) (b : Bool) : Prop := (x = y ∧ idV x = true ∧ b = true) ∨ ∃ s t, x = .str s ∧ y = .str t ∧ b = (s == t)
theorem EqVV.at {A : Around} {s : Shared} {x y : V} {u v : Value} {b : Bool} (h : EqVV x y b) (ru : RelV x u) (rv : RelV y v) : EqAt A s u v b := by
  rcases h with ⟨rfl, hi, rfl⟩ | ⟨p, q, rfl, rfl, rfl⟩
  · exact same_eqAt hi ru rv
  · obtain ⟨t, rfl⟩ := ru
    obtain ⟨t', rfl⟩ := rv
    exact EqAt.str_str (A := A) (s := s) p t q t'
section
variable {X : Cx}
theorem eqs_at {A : Around} {s : Shared} {xs ys : List V} {us vs : List Value} {e : Nat → Bool} (ru : Vals xs us) (rv : Vals ys vs) (h : ∀ j a b, xs[j]? = some a → ys[j]? = some b → EqVV a b (e j)) (j : Nat) (h1 : j < us.toArray.size) (h2 : j < vs.toArray.size) : EqAt A s us.toArray[j] vs.toArray[j] (e j) := by
  have l1 : j < us.length := by simpa using h1
  have l2 : j < vs.length := by simpa using h2
  have l3 : j < xs.length := by rw [ru.length]; exact l1
  have l4 : j < ys.length := by rw [rv.length]; exact l2
  obtain ⟨u, eu, qu⟩ := ru.get (show xs[j]? = some xs[j] by simp)
  obtain ⟨v, ev, qv⟩ := rv.get (show ys[j]? = some ys[j] by simp)
  have z1 : us.toArray[j] = u := by
    have : us[j]? = some us[j] := by simp [l1]
    rw [this] at eu
    simpa using eu
  have z2 : vs.toArray[j] = v := by
    have : vs[j]? = some vs[j] := by simp [l2]
    rw [this] at ev
    simpa using ev
  rw [z1, z2]
  exact (h j _ _ (by simp) (by simp)).at qu qv
def rEqI (K : PySem.W.Frag) : R2 := fun x y H Q => ∃ p q xs, x = .ref p ∧ y = .ref q ∧ SqL K H p xs ∧ SqL K H q xs ∧ xs.all idV = true ∧ Q (.bl true) H
theorem op_eqI {k : Nat} (hr : Room k X.A) : OpR X (compareOp .Eq) (rEqI X.K) := by
  intro pins s σ H x y v u Q I rx ry h
  obtain ⟨p, q, xs, rfl, rfl, hp, hq, hf, qq⟩ := h
  cases rx
  cases ry
  obtain ⟨us, ru, pu, _⟩ := I.list hp
  obtain ⟨vs, rv, pw, _⟩ := I.list hq
  have hsz : us.toArray.size = vs.toArray.size := by simp [← ru.length, ← rv.length]
  have b := RcAt.lists (A := X.A) (s := s) (e := fun _ => true) pu.isList pw.isList hsz (by have := hr.un; omega) (fun j h1 h2 => eqs_at ru rv (e := fun _ => true) (fun j a b ha hb => by
    rw [ha] at hb
    cases hb
    exact .inl ⟨rfl, List.all_eq_true.mp hf _ (List.mem_of_getElem? ha), rfl⟩) j h1 h2)
  rw [show ((List.range us.toArray.size).all fun _ => true) = true by simp] at b
  exact b X.prog X.w X.xe _ ⟨.bl _, H, I, rfl, qq⟩
end
end L2
namespace L2
open PySem PySem.W PySem.Spec PyProof.Rows PySem.SeqAt
section
variable {X : Cx}
def rEqE (K : PySem.W.Frag) : R2 := fun x y H Q => ∃ p q xs, x = .ref p ∧ y = .ref q ∧ SqL K H p xs ∧ SqL K H q [] ∧ Q (.bl (decide (xs = []))) H
theorem op_eqE {k : Nat} (hr : Room k X.A) : OpR X (compareOp .Eq) (rEqE X.K) := by
  intro pins s σ H x y v u Q I rx ry h
  obtain ⟨p, q, xs, rfl, rfl, hp, hq, qq⟩ := h
  cases xs with
  | nil => exact op_eqI hr pins s σ H _ _ v u Q I rx ry ⟨p, q, [], rfl, rfl, hp, hq, rfl, qq⟩
  | cons a t =>
    cases rx
    cases ry
    obtain ⟨us, ru, pu, _⟩ := I.list hp
    obtain ⟨vs, rv, pw, _⟩ := I.list hq
    have h1 := ru.length
    have h2 := rv.length
    have b := RcAt.lists_lengths (A := X.A) (s := s) pu.isList pw.isList (by simp [← h1, ← h2]) (by have := hr.un; omega)
    exact b X.prog X.w X.xe _ ⟨.bl _, H, I, rfl, qq⟩
end
section
variable {K : PySem.W.Frag} {H : Hp} {Q : VK} {σ : St} {p q : Addr} {xs ys : List V} {te th : TE} {cs ds : List Nat} {j i : Int} {nms : List (List Nat)} {b : Bool} {a c : Nat}
instance go_eqE1 [h : SqA K H p xs] [h2 : Hat H q (.lst [])] : Go (rEqE K (.ref p) (.ref q) H Q) (Q (.bl (decide (xs = []))) H) := ⟨fun k => ⟨p, q, xs, rfl, rfl, h.e, SqL.of h2.e, k⟩⟩
end
inductive AnyK (H : Hp) : V → Prop
  | flt {v : V} (h : v = .non ∨ (∃ b, v = .bl b) ∨ (∃ i, v = .int i) ∨ ∃ z, v = .str z) : AnyK H v
  | lst {q : Addr} {xs : List V} (e : H q = some (.lst xs)) : AnyK H (.ref q)
  | tup {q : Addr} {xs : List V} (e : H q = some (.tup xs)) : AnyK H (.ref q)
theorem AnyK.kept {H H' : Hp} {v : V} (h : AnyK H v) (k : ∀ a u, v = .ref a → H a = some u → H' a = some u) : AnyK H' v := by
  cases h with
  | flt h => exact .flt h
  | lst e => exact .lst (k _ _ rfl e)
  | tup e => exact .tup (k _ _ rfl e)
theorem AnyK.same {H H' : Hp} {v : V} (h : AnyK H v) (s : Same H H') : AnyK H' v := h.kept fun a u _ e => s a u e
theorem AnyK.ty {H : Hp} {v : V} (h : AnyK H v) (K : PySem.W.Frag) : ∃ n, TyOf K H v (.type n) := by
  cases h with
  | flt h =>
    rcases h with rfl | ⟨b, rfl⟩ | ⟨i, rfl⟩ | ⟨z, rfl⟩
    · exact ⟨_, .non⟩
    · exact ⟨_, .bl b⟩
    · exact ⟨_, .int i⟩
    · exact ⟨_, .str z⟩
  | lst e => exact ⟨_, .lst e⟩
  | tup e => exact ⟨_, .tup e⟩
theorem AnyK.id {H : Hp} {v : V} (h : AnyK H v) : idV v = true := by
  cases h with
  | flt h => rcases h with rfl | ⟨b, rfl⟩ | ⟨i, rfl⟩ | ⟨z, rfl⟩ <;> rfl
  | lst e => rfl
  | tup e => rfl
end L2
namespace L2
open PySem PySem.W PySem.Calls PySem.Spec PyProof.Rows
abbrev swBody (x : Str) (p1 p2 p3 p4 p5 p6 p7 : Pos) (j j2 j3 : Nat) : Expr := .Tuple [.Subscript (.Name x p1) (.Constant (.int 1) j p2) p3, .Subscript (.Name x p4) (.Constant (.int 0) j2 p5) p6] j3 p7
def IsLam2 (H : Hp) (f : Addr) : Prop := ∃ (qual x : Str) (params : Arguments) (p1 p2 p3 p4 p5 p6 p7 : Pos) (j j2 j3 : Nat) (scope : Scope) (pm ctv : Value) (c' : Addr) (oc : Obj) (vs : Array Value) (t : Tok),
  H f = some (.frz (PySem.W.kla_obj "<lambda>" qual params (swBody x p1 p2 p3 p4 p5 p6 p7 j j2 j3) scope [] pm c' ctv) (.own f)) ∧ H c' = some (.frz oc (.own c')) ∧ oc.data = .fields vs ∧ vs[1]? = some (.str qual t) ∧ LamScope x scope ∧
  ∀ q : Addr, bindArgs (PySem.W.kla_fn "<lambda>" qual params (swBody x p1 p2 p3 p4 p5 p6 p7 j j2 j3) scope [] pm (.ref c') ctv) ⟨[.ref q], []⟩ = pure [(x, .ref q)]
section
variable {K : PySem.W.Frag} {H0 H : Hp} {M : List Addr} {L L' : List (Addr × HO)} {I : List Im} {Q : VK} {l f P : Addr} {ys : List V} {ws : List (Nat × Nat)} {pos : Pos} {qual : Str} {ps : Array Value} {σ : St} {R : Hp → Prop}
theorem IsLam2.st : ∀ H H', Tst H H' → IsLam2 H f → IsLam2 H' f := fun H H' t h => by
  obtain ⟨a1, a2, a3, a4, a5, a6, a7, a8, a9, a10, a11, a12, a13, a14, a15, a16, a17, a18, a19, a20, e1, e2, r⟩ := h
  exact ⟨a1, a2, a3, a4, a5, a6, a7, a8, a9, a10, a11, a12, a13, a14, a15, a16, a17, a18, a19, a20, t _ _ rfl e1, t _ _ rfl e2, r⟩
end
end L2
namespace L2
open PySem PySem.W PySem.Spec PyProof.Rows
end L2
namespace L2
open PySem PySem.Spec PyProof.Rows PySem.SeqAt
def rRepK (K : PySem.W.Frag) : List V → Hp → VK → Prop := fun xs H Q => ∃ x d, xs = [x] ∧ (∀ X : Cx, X.K = K → Shows X H x d) ∧ d.showable = true ∧ d.depth ≤ 100 ∧ d.shown.length ≤ sizeLine ∧ Q (.str d.shown) H
abbrev flD (v : V) : PyData := pyD (flatDt v)
theorem pyDs_flat : ∀ vs : List V, pyDs (vs.map flatDt) = vs.map flD
  | [] => rfl
  | v :: vs => by simp [pyDs, pyDs_flat vs]
inductive ThD (H : Hp) : V → PyData → Prop
  | flat {v : V} (h : isFlat v = true) (z : Shm 500 1 (flD v)) : ThD H v (flD v)
  | lst {p : Addr} {vs : List V} (e : H p = some (.lst vs)) (h : ∀ v ∈ vs, isFlat v = true) (z : Shm 500 1 (.list (vs.map flD))) : ThD H (.ref p) (.list (vs.map flD))
  | tup {p : Addr} {vs : List V} (e : H p = some (.tup vs)) (h : ∀ v ∈ vs, isFlat v = true) (z : Shm 500 1 (.tuple (vs.map flD))) : ThD H (.ref p) (.tuple (vs.map flD))
  | dct {p : Addr} (e : H p = some (.dK [])) : ThD H (.ref p) (.dict [])
theorem shm_dict0 : Shm 500 1 (.dict []) := ⟨by decide +kernel, by decide +kernel, by decide +kernel⟩
section
variable {H H' : Hp} {v : V} {d : PyData} {K : PySem.W.Frag}
theorem ThD.shm (h : ThD H v d) : Shm 500 1 d := by
  cases h with
  | flat _ z => exact z
  | lst _ _ z => exact z
  | tup _ _ z => exact z
  | dct _ => exact shm_dict0
theorem ThD.kept (h : ThD H v d) (k : ∀ a u, v = .ref a → H a = some u → H' a = some u) : ThD H' v d := by
  cases h with
  | flat h z => exact .flat h z
  | lst e h z => exact .lst (k _ _ rfl e) h z
  | tup e h z => exact .tup (k _ _ rfl e) h z
  | dct e => exact .dct (k _ _ rfl e)
theorem ThD.ty (h : ThD H v d) : ∃ n, TyOf K H v (.type n) := by
  cases h with
  | flat h z =>
    cases v with
    | non => exact ⟨_, .non⟩
    | bl b => exact ⟨_, .bl b⟩
    | int i => exact ⟨_, .int i⟩
    | str x => exact ⟨_, .str x⟩
    | _ => simp [isFlat] at h
  | lst e h z => exact ⟨_, .lst e⟩
  | tup e h z => exact ⟨_, .tup e⟩
  | dct e => exact ⟨_, .dK e⟩
theorem ThD.shows {X : Cx} (h : ThD H v d) : Shows X H v d := by
  cases h with
  | flat h z => exact shows_rep (rep_flat h)
  | lst e h z =>
    have := shows_rep (X := X) (H := H) (d := .lst (_)) (by simp only [Rep]; exact ⟨_, _, rfl, SqL.of e, reps_flat h⟩)
    rw [pyD, pyDs_flat] at this
    exact this
  | tup e h z =>
    have := shows_rep (X := X) (H := H) (d := .tup (_)) (by simp only [Rep]; exact ⟨_, _, rfl, SqT.of e, reps_flat h⟩)
    rw [pyD, pyDs_flat] at this
    exact this
  | dct e => exact shows_dict0 e
end
class FlA (v : V) (d : outParam PyData) : Prop where
  f : isFlat v = true
  e : d = flD v
  z : Shm 500 1 d
class ThA (H : Hp) (v : V) (d : outParam PyData) : Prop where
  e : ThD H v d
class OldD (H0 : Hp) (M : List Addr) (v : V) (d : outParam PyData) : Prop where
  e : ThD H0 v d
  n : ∀ a, v = .ref a → a ∉ M
class TxA (x : Str) : Prop where
  z : Shm 500 1 (.str x)
class NmA (i : Int) : Prop where
  z : i.natAbs < 10 ^ 40
section
variable {H H0 : Hp} {M : List Addr} {L : List (Addr × HO)} {I : List Im} {v : V} {d : PyData} {xs : List V} {ds : List PyData} {x : Str} {i : Int} {b : Bool} {K : PySem.W.Frag} {p : Addr} {Q : VK}
theorem tx_of {x : Str} (h : (x.cps.toList.all fun c => decide (c < 16 ^ 8)) = true) (l : x.length ≤ 40) : TxA x := ⟨(shm_str fun c hc => by simpa using List.all_eq_true.mp h c hc).mono (by omega) (by decide)⟩
instance fl_str [t : TxA x] : FlA (.str x) (.str x) := ⟨rfl, rfl, t.z⟩
instance fl_int [t : NmA i] : FlA (.int i) (.int i) := ⟨rfl, rfl, (shm_int (k := 40) (by decide) t.z (by decide)).mono (by decide) (by decide)⟩
instance fl_bl : FlA (.bl b) (.bool b) := ⟨rfl, rfl, (shm_bl b).mono (by decide) (by decide)⟩
instance fl_non : FlA .non .none := ⟨rfl, rfl, shm_non.mono (by decide) (by decide)⟩
instance th_flat [f : FlA v d] : ThA H v d := ⟨by rw [f.e]; exact .flat f.f (f.e ▸ f.z)⟩
instance th_old [F : SH H0 M H L I] [h : OldD H0 M v d] : ThA H v d := ⟨h.e.kept fun a u e hu => F.fr a u (h.n a e) hu⟩
instance (priority := high) go_eqsame : Go (rEq (.str x) (.str x) H Q) (Q (.bl true) H) := ⟨fun k => ⟨rfl, by simpa using k⟩⟩
end
end L2
set_option maxHeartbeats 400000
namespace L2
open PySem PySem.Spec PyProof.Rows PySem.SeqAt
end L2
set_option maxHeartbeats 1000000
namespace L2
open PySem PySem.Spec PyProof.Rows PySem.SeqAt
mutual
def TrH (H : Hp) : Dt → V → Prop
  | .non, v => v = .non
  | .bl b, v => v = .bl b
  | .int i, v => v = .int i
  | .str x, v => v = .str x
  | .lst ds, v => ∃ p xs, v = .ref p ∧ H p = some (.lst xs) ∧ TrsH H ds xs
  | .tup ds, v => ∃ p xs, v = .ref p ∧ H p = some (.tup xs) ∧ TrsH H ds xs
def TrsH (H : Hp) : List Dt → List V → Prop
  | [], xs => xs = []
  | d :: ds, xs => ∃ x r, xs = x :: r ∧ TrH H d x ∧ TrsH H ds r
end
mutual
theorem TrH.same {H H' : Hp} (s : Same H H') : ∀ {d : Dt} {v : V}, TrH H d v → TrH H' d v
  | .non, v, h => h
  | .bl _, v, h => h
  | .int _, v, h => h
  | .str _, v, h => h
  | .lst ds, v, h => by
    simp only [TrH] at h ⊢
    obtain ⟨p, xs, e, hp, hs⟩ := h
    exact ⟨p, xs, e, s _ _ hp, TrsH.same s hs⟩
  | .tup ds, v, h => by
    simp only [TrH] at h ⊢
    obtain ⟨p, xs, e, hp, hs⟩ := h
    exact ⟨p, xs, e, s _ _ hp, TrsH.same s hs⟩
theorem TrsH.same {H H' : Hp} (s : Same H H') : ∀ {ds : List Dt} {xs : List V}, TrsH H ds xs → TrsH H' ds xs
  | [], xs, h => h
  | d :: ds, xs, h => by
    simp only [TrsH] at h ⊢
    obtain ⟨x, r, e, h1, h2⟩ := h
    exact ⟨x, r, e, TrH.same s h1, TrsH.same s h2⟩
end
theorem TrsH.len {H : Hp} : ∀ {ds : List Dt} {xs : List V}, TrsH H ds xs → xs.length = ds.length
  | [], xs, h => by simp only [TrsH] at h; rw [h]; rfl
  | d :: ds, xs, h => by
    simp only [TrsH] at h
    obtain ⟨x, r, rfl, h1, h2⟩ := h
    rw [List.length_cons, List.length_cons, h2.len]
theorem TrsH.at {H : Hp} : ∀ {ds : List Dt} {xs : List V}, TrsH H ds xs → ∀ {i : Nat} {v : V}, xs[i]? = some v → ∃ d, ds[i]? = some d ∧ TrH H d v
  | [], xs, h, i, v, e => by simp only [TrsH] at h; rw [h] at e; cases e
  | d :: ds, xs, h, i, v, e => by
    simp only [TrsH] at h
    obtain ⟨x, r, rfl, h1, h2⟩ := h
    cases i with
    | zero => cases e; exact ⟨d, rfl, h1⟩
    | succ i => exact h2.at (i := i) e
theorem TrsH.of {H : Hp} : ∀ {ds : List Dt} {xs : List V}, xs.length = ds.length → (∀ (i : Nat) (v : V), xs[i]? = some v → ∃ d, ds[i]? = some d ∧ TrH H d v) → TrsH H ds xs
  | [], xs, hl, _ => by simp only [TrsH]; exact List.eq_nil_of_length_eq_zero hl
  | d :: ds, [], hl, _ => by cases hl
  | d :: ds, x :: r, hl, h => by
    simp only [TrsH]
    refine ⟨x, r, rfl, ?_, TrsH.of (by simpa using hl) fun i v e => h (i + 1) v e⟩
    obtain ⟨d', e, t⟩ := h 0 x rfl
    cases e
    exact t
mutual
def widD : Dt → Prop
  | .lst ds => ds.length ≤ 1000 ∧ widDs ds
  | .tup ds => ds.length ≤ 1000 ∧ widDs ds
  | _ => True
def widDs : List Dt → Prop
  | [] => True
  | d :: ds => widD d ∧ widDs ds
end
def hides (B : List Addr) (H : Hp) : Hp := fun a => if a ∈ B then none else H a
def Al (H : Hp) (B : List Addr) : Prop := ∀ b ∈ B, ∃ xs, H b = some (.lst xs)
theorem hides_nil {H : Hp} : hides [] H = H := by funext a; simp [hides]
theorem Al.same {H H' : Hp} {B : List Addr} (h : Al H B) (s : Same H H') : Al H' B := fun b hb => (h b hb).imp fun u e => s _ _ e
def Cp (H H' : Hp) (d : Dt) (v v' : V) : Prop := Same H H' ∧ ∀ B, Al H B → TrH (hides B H) d v → TrH (hides B H') d v'
theorem Cp.tr {H H' : Hp} {d : Dt} {v v' : V} (c : Cp H H' d v v') (t : TrH H d v) : TrH H' d v' := by
  have h := c.2 [] (by simp [Al])
  rw [hides_nil, hides_nil] at h
  exact h t
section
variable {H : Hp} {ds es : List Dt} {xs ys : List V}
theorem TrsH.take (h : TrsH H ds xs) (n : Nat) : TrsH H (ds.take n) (xs.take n) := TrsH.of (by rw [List.length_take, List.length_take, h.len]) fun i v e => by
  rw [List.getElem?_take] at e ⊢
  by_cases hi : i < n
  · rw [if_pos hi] at e ⊢
    exact h.at e
  · rw [if_neg hi] at e
    cases e
theorem TrsH.drop (h : TrsH H ds xs) (n : Nat) : TrsH H (ds.drop n) (xs.drop n) := TrsH.of (by rw [List.length_drop, List.length_drop, h.len]) fun i v e => by
  rw [List.getElem?_drop] at e ⊢
  exact h.at e
theorem TrsH.one {d : Dt} {v : V} (h : TrH H d v) : TrsH H [d] [v] := by
  simp only [TrsH]
  exact ⟨v, [], rfl, h, rfl⟩
theorem TrH.lst {p : Addr} (h : H p = some (.lst xs)) (t : TrsH H ds xs) : TrH H (.lst ds) (.ref p) := by
  simp only [TrH]
  exact ⟨p, xs, rfl, h, t⟩
theorem TrH.tup {p : Addr} (h : H p = some (.tup xs)) (t : TrsH H ds xs) : TrH H (.tup ds) (.ref p) := by
  simp only [TrH]
  exact ⟨p, xs, rfl, h, t⟩
end
def Sm (n : Nat) (ds : List Dt) : Prop := ∀ d ∈ ds, depD d ≤ n ∧ widD d
theorem Sm.take {n : Nat} {ds : List Dt} (h : Sm n ds) (k : Nat) : Sm n (ds.take k) := fun d hd => h d (List.mem_of_mem_take hd)
theorem Sm.drop {n : Nat} {ds : List Dt} (h : Sm n ds) (k : Nat) : Sm n (ds.drop k) := fun d hd => h d (List.mem_of_mem_drop hd)
theorem Sm.one {n : Nat} {d : Dt} (h : depD d ≤ n) (w : widD d) : Sm n [d] := fun e he => by rw [List.mem_singleton.mp he]; exact ⟨h, w⟩
end L2
set_option maxHeartbeats 4000000
namespace L2
open PySem PySem.Spec PyProof.Rows PySem.SeqAt
def tEi (t u : TE) : TE := fun σ H Q => t σ H Q ∨ u σ H Q
theorem pe_ei {X : Cx} {e : Expr} {t u : TE} (h1 : PE X e t) (h2 : PE X e u) : PE X e (tEi t u) := fun pins s σ H Q I h => h.elim (h1 pins s σ H Q I) (h2 pins s σ H Q I)
theorem ei_l {t u : TE} {σ : St} {H : Hp} {Q : VK} (h : t σ H Q) : tEi t u σ H Q := .inl h
theorem ei_r {t u : TE} {σ : St} {H : Hp} {Q : VK} (h : u σ H Q) : tEi t u σ H Q := .inr h
section
variable {X : Cx}
theorem meets_ins (l : Addr) (its : List Value) (n : Nat) (j : Int) (t : Tok) (u : Value) (h1 : 0 ≤ j) (h2 : j ≤ its.length) (hz : its.length < 1000000) : ∃ S : PySem.Spec, Meets (Builtin.«list.insert» ⟨[.ref l, .int j t, u], []⟩) S ∧ ∀ A R s, s.heap.get? l = some { cls := .type "list", data := .seq its.toArray n } → (∀ f : Array Value → Array Value, f its.toArray = (its.take j.toNat ++ u :: its.drop j.toNat).toArray → R (.ok (.ret Value.none)) { s with heap := s.heap.update l (Obj.mapSeq f), toks := s.toks }) → S A R s := by
  have sz : sizeLine ≥ 1000000 + 1 := by rw [sizeLine_eq]; omega
  have hfit : ¬ (!Builtin.List.listFitsIndex j) = true := by
    have h3 : (-(2 ^ 63 : Int)) ≤ j := by omega
    have h4 : j < 2 ^ 63 := by omega
    rw [show Builtin.List.listFitsIndex j = true from by unfold Builtin.List.listFitsIndex; rw [Bool.and_eq_true]; exact ⟨decide_eq_true h3, decide_eq_true h4⟩]
    decide
  have hsz : its.toArray.size ≤ sizeLine := by rw [List.size_toArray]; omega
  refine ⟨_, @PySem.AutoListH.list_insert_list_int_val_1 l its.toArray n j t u hfit hsz, fun A R s e k => ⟨e, k _ ?_⟩⟩
  have hm : min j.toNat its.toArray.size = j.toNat := by rw [List.size_toArray]; omega
  show (its.toArray.extract 0 (if j < 0 then _ else min j.toNat its.toArray.size)).push u ++ its.toArray.extract (if j < 0 then _ else min j.toNat its.toArray.size) = _
  rw [if_neg (by omega), hm]
  apply Array.ext'
  simp
  exact List.take_of_length_le (by rw [List.length_drop]; omega)
def rInsA : V → List V → Hp → VK → Prop := fun x vs H Q => ∃ (l : Addr) (xs : List V) (j : Int) (y : V), x = .ref l ∧ vs = [.int j, y] ∧ H l = some (.lst xs) ∧ (0 ≤ j ∧ j ≤ xs.length ∧ xs.length < 1000000) ∧ ∀ H', Off l H H' → H' l = some (.lst (xs.take j.toNat ++ y :: xs.drop j.toNat)) → Q .non H'
theorem mt_insA : MtM X "list.insert" rInsA := by
  intro pins s σ H x vs v us Q I rx rv h
  obtain ⟨l, xs, j, y, rfl, rfl, hH, ⟨hj0, hj1, hz⟩, q⟩ := h
  cases rx
  obtain ⟨u1, u2, rfl, r1, r2⟩ := vals2 rv
  obtain ⟨t, rfl⟩ := r1
  obtain ⟨z, its, n, r, hl, e⟩ := I.lstM hH
  have sz : sizeLine ≥ 1000000 + 1 := by rw [sizeLine_eq]; omega
  obtain ⟨S, mm, hS⟩ := meets_ins l its n j t u2 hj0 (by omega) (by omega)
  refine call_meets (S := S) F.slot_list_insert ⟨_, e, rfl⟩ F.entry_list_insert (F.args_list_insert_3 _ _ _) mm (hS _ _ _ e fun f hf => ?_)
  refine ⟨.non, _, I.lset (ys := xs.take j.toNat ++ y :: xs.drop j.toNat) hH e hf ((r.take j.toNat).append (.cons r2 (r.drop j.toNat))) ?_, rfl, q _ Off.upd upd_same⟩
  simp only [List.length_append, List.length_cons, List.length_take, List.length_drop]
  omega
theorem pe_insA {o e1 e2 : Expr} {to te1 te2 : TE} {apos cpos : Pos} (ho : PE X o to) (h1 : PE X e1 te1) (h2 : PE X e2 te2) (hbase : attributeBase o "insert" X.env (eval o X.env) = eval o X.env := by rfl)
    (hfew : ((backTo cpos (starEach [e1, e2] X.env)).all (fun x => !x.1) && (backToKw cpos (keywordEach [] X.env)).all (fun x => x.1.isSome)
      && decide (([e1, e2] : List Expr).length + ([] : List Keyword).length + (if ([] : List Keyword).isEmpty then 0 else 1) < 30)) = true := by rfl)
    (hline : (apos.endLine == cpos.line) = true := by rfl) (hs : starEach [e1, e2] X.env = (false, eval e1 X.env) :: starEach [e2] X.env := by rfl) (hs2 : starEach [e2] X.env = (false, eval e2 X.env) :: starEach [] X.env := by rfl) (hp : (backTo cpos (starEach [e2] X.env)).any (·.1) = false := by rfl) :
    PE X (.Call (.Attribute o "insert" apos) [e1, e2] [] cpos) (tBM X.K "list" rInsA to (tCons te1 (tCons te2 tNil))) :=
  pe_bm PySem.F.plainAttrs_list PySem.F.slot_list_insert PySem.F.type_list_insert mt_insA ho (pa_cons h1 (pa_cons h2 pa_nil hs2) hs) hbase hfew hline hs hp
end
end L2
namespace M22
end M22
namespace M44
def meetB (s z : Nat) (t : Nat × Nat) : Bool := decide (s < t.1 + t.2) && decide (t.1 < s + z)
theorem meetB_iff {s z : Nat} {t : Nat × Nat} : meetB s z t = true ↔ s < t.1 + t.2 ∧ t.1 < s + z := by
  unfold meetB
  simp
def fwF : Nat → Nat → List (Nat × Nat) → List (Nat × Nat)
  | 0, s, ts => if ts.filter (meetB s (2 ^ 0)) = [] then [(s, 2 ^ 0)] else []
  | k + 1, s, ts => if ts.filter (meetB s (2 ^ (k + 1))) = [] then [(s, 2 ^ (k + 1))] else if (s, 2 ^ (k + 1)) ∈ ts.filter (meetB s (2 ^ (k + 1))) then [] else
      fwF k s (ts.filter (meetB s (2 ^ (k + 1)))) ++ fwF k (s + 2 ^ k) (ts.filter (meetB s (2 ^ (k + 1))))
def C (tk : Nat → Bool) (n p k : Nat) : Prop := p % 2 ^ k = 0 ∧ p + 2 ^ k ≤ n ∧ ∀ c, p ≤ c → c < p + 2 ^ k → tk c = false
theorem pos2 (k : Nat) : 0 < 2 ^ k := Nat.pow_pos (by decide)
theorem succ2 (k : Nat) : 2 ^ (k + 1) = 2 ^ k + 2 ^ k := by rw [Nat.pow_succ]; omega
theorem C.down {tk : Nat → Bool} {n p k : Nat} (h : C tk n p (k + 1)) : C tk n p k := by
  obtain ⟨h1, h2, h3⟩ := h
  have hp := pos2 k
  have e := succ2 k
  refine ⟨?_, by omega, fun c a b => h3 c a (by omega)⟩
  obtain ⟨q, hq⟩ := Nat.dvd_of_mod_eq_zero h1
  exact Nat.mod_eq_zero_of_dvd ⟨2 * q, by rw [hq, e, Nat.add_mul]; rw [← Nat.mul_assoc, Nat.mul_comm (2 ^ k) 2, Nat.mul_assoc]; omega⟩
theorem C.le {tk : Nat → Bool} {n p k j : Nat} (hj : j ≤ k) (h : C tk n p k) : C tk n p j := by
  induction k with
  | zero => rw [Nat.le_zero.mp hj]; exact h
  | succ k ih =>
    rcases Nat.lt_or_ge k j with c | c
    · rw [show j = k + 1 by omega]; exact h
    · exact ih c h.down
theorem C.uniq {tk : Nat → Bool} {n p k j : Nat} (h1 : C tk n p k) (h2 : ¬ C tk n p (k + 1)) (h3 : C tk n p j) (h4 : ¬ C tk n p (j + 1)) : k = j := by
  rcases Nat.lt_trichotomy k j with c | c | c
  · exact absurd (h3.le c) h2
  · exact c
  · exact absurd (h1.le c) h4
inductive Gr (tk : Nat → Bool) (n : Nat) : Nat → List (Nat × Nat) → Prop where
  | done {p : Nat} : n ≤ p → Gr tk n p []
  | skip {p : Nat} {l : List (Nat × Nat)} : p < n → tk p = true → Gr tk n (p + 1) l → Gr tk n p l
  | out {p k : Nat} {l : List (Nat × Nat)} : p < n → C tk n p k → ¬ C tk n p (k + 1) → Gr tk n (p + 2 ^ k) l → Gr tk n p ((p, 2 ^ k) :: l)
theorem gr_skips {tk : Nat → Bool} {n : Nat} {l : List (Nat × Nat)} : ∀ (z p : Nat), p + z ≤ n → (∀ c, p ≤ c → c < p + z → tk c = true) → Gr tk n (p + z) l → Gr tk n p l
  | 0, p, _, _, h => h
  | z + 1, p, hn, ht, h => by
    refine .skip (by omega) (ht p (Nat.le_refl _) (by omega)) (gr_skips z (p + 1) (by omega) (fun c a b => ht c (by omega) (by omega)) ?_)
    rw [show p + 1 + z = p + (z + 1) by omega]
    exact h
structure Ok (tk : Nat → Bool) (s k : Nat) (ts : List (Nat × Nat)) : Prop where
  ag : ∀ c, s ≤ c → c < s + 2 ^ k → (tk c = true ↔ ∃ t ∈ ts, t.1 ≤ c ∧ c < t.1 + t.2)
  nest : ∀ t ∈ ts, s < t.1 + t.2 → t.1 < s + 2 ^ k → s ≤ t.1 ∧ t.1 + t.2 ≤ s + 2 ^ k ∧ ∃ j, t.2 = 2 ^ j ∧ (t.1 - s) % 2 ^ j = 0
theorem in_half {a k j : Nat} (h1 : a % 2 ^ j = 0) (h2 : a + 2 ^ j ≤ 2 ^ (k + 1)) (h3 : ¬ (a = 0 ∧ j = k + 1)) : a + 2 ^ j ≤ 2 ^ k ∨ 2 ^ k ≤ a := by
  have hj := pos2 j
  have hk := pos2 k
  have e := succ2 k
  have hjk : j ≤ k := by
    rcases Nat.lt_or_ge k j with c | c
    · exfalso
      have h4 : 2 ^ (k + 1) ≤ 2 ^ j := Nat.pow_le_pow_right (by decide) c
      have h5 : a = 0 := by omega
      have h6 : 2 ^ j = 2 ^ (k + 1) := by omega
      have h7 : j = k + 1 := by
        rcases Nat.lt_or_ge (k + 1) j with z | z
        · have : 2 ^ (k + 1 + 1) ≤ 2 ^ j := Nat.pow_le_pow_right (by decide) z
          have := succ2 (k + 1)
          have := pos2 (k + 1)
          omega
        · omega
      exact h3 ⟨h5, h7⟩
    · exact c
  rcases Nat.lt_or_ge a (2 ^ k) with c | c
  · left
    obtain ⟨q, hq⟩ := Nat.dvd_of_mod_eq_zero h1
    obtain ⟨m, hm⟩ : ∃ m, 2 ^ k = 2 ^ j * m := ⟨2 ^ (k - j), by rw [← Nat.pow_add]; congr 1; omega⟩
    rw [hq, hm] at c ⊢
    have : q < m := Nat.lt_of_mul_lt_mul_left c
    calc 2 ^ j * q + 2 ^ j = 2 ^ j * (q + 1) := by rw [Nat.mul_add, Nat.mul_one]
      _ ≤ 2 ^ j * m := Nat.mul_le_mul_left _ this
  · exact .inr c
theorem mod_half {a k j : Nat} (h1 : a % 2 ^ j = 0) (h2 : 2 ^ k ≤ a) (hj : j ≤ k) : (a - 2 ^ k) % 2 ^ j = 0 := by
  obtain ⟨q, hq⟩ := Nat.dvd_of_mod_eq_zero h1
  obtain ⟨m, hm⟩ : ∃ m, 2 ^ k = 2 ^ j * m := ⟨2 ^ (k - j), by rw [← Nat.pow_add]; congr 1; omega⟩
  rw [hq, hm, ← Nat.mul_sub]
  exact Nat.mul_mod_right _ _
theorem Ok.filt {tk : Nat → Bool} {s k : Nat} {ts : List (Nat × Nat)} (h : Ok tk s k ts) : Ok tk s k (ts.filter (meetB s (2 ^ k))) where
  ag c a b := by
    rw [h.ag c a b]
    constructor
    · rintro ⟨t, ht, h1, h2⟩
      exact ⟨t, List.mem_filter.mpr ⟨ht, meetB_iff.mpr ⟨by omega, by omega⟩⟩, h1, h2⟩
    · rintro ⟨t, ht, h1, h2⟩
      exact ⟨t, (List.mem_filter.mp ht).1, h1, h2⟩
  nest t ht := h.nest t (List.mem_filter.mp ht).1
theorem Ok.halves {tk : Nat → Bool} {s k : Nat} {ts : List (Nat × Nat)} (h : Ok tk s (k + 1) ts) (hn : (s, 2 ^ (k + 1)) ∉ ts) : Ok tk s k ts ∧ Ok tk (s + 2 ^ k) k ts := by
  have e := succ2 k
  have hk := pos2 k
  have key : ∀ t ∈ ts, s < t.1 + t.2 → t.1 < s + 2 ^ (k + 1) → ∃ j, t.2 = 2 ^ j ∧ s ≤ t.1 ∧ (t.1 - s) % 2 ^ j = 0 ∧ t.1 + t.2 ≤ s + 2 ^ (k + 1) ∧ (t.1 + t.2 ≤ s + 2 ^ k ∨ (s + 2 ^ k ≤ t.1 ∧ j ≤ k)) := by
    intro t ht a b
    obtain ⟨h1, h2, j, h3, h4⟩ := h.nest t ht a b
    refine ⟨j, h3, h1, h4, h2, ?_⟩
    have hj := pos2 j
    rcases in_half (a := t.1 - s) (k := k) (j := j) h4 (by omega) (fun ⟨z1, z2⟩ => hn (by
      have : t = (s, 2 ^ (k + 1)) := by
        apply Prod.ext
        · show t.1 = s
          omega
        · show t.2 = 2 ^ (k + 1)
          rw [h3, z2]
      rw [← this]
      exact ht)) with c | c
    · left; omega
    · right
      refine ⟨by omega, ?_⟩
      rcases Nat.lt_or_ge k j with z | z
      · have : 2 ^ (k + 1) ≤ 2 ^ j := Nat.pow_le_pow_right (by decide) z
        omega
      · exact z
  refine ⟨⟨fun c a b => h.ag c a (by omega), fun t ht a b => ?_⟩, ⟨fun c a b => h.ag c (by omega) (by omega), fun t ht a b => ?_⟩⟩
  · obtain ⟨j, h1, h2, h3, h4, h5⟩ := key t ht a (by omega)
    refine ⟨h2, ?_, j, h1, h3⟩
    rcases h5 with h5 | ⟨h5, _⟩
    · exact h5
    · omega
  · obtain ⟨j, h1, h2, h3, h4, h5⟩ := key t ht (by omega) (by omega)
    rcases h5 with h5 | ⟨h5, h6⟩
    · omega
    · refine ⟨h5, by omega, j, h1, ?_⟩
      have := mod_half (a := t.1 - s) (k := k) (j := j) h3 (by omega) h6
      rw [show t.1 - (s + 2 ^ k) = t.1 - s - 2 ^ k by omega]
      exact this
theorem not_next {s k : Nat} (h : s % 2 ^ (k + 1) = 0) : (s + 2 ^ k) % 2 ^ (k + 1) ≠ 0 := by
  have hk := pos2 k
  have e := succ2 k
  rw [Nat.add_mod, h, Nat.zero_add, Nat.mod_mod, Nat.mod_eq_of_lt (by omega)]
  omega
theorem half_al {s k : Nat} (h : s % 2 ^ (k + 1) = 0) : s % 2 ^ k = 0 ∧ (s + 2 ^ k) % 2 ^ k = 0 := by
  have e := succ2 k
  have h0 : s % 2 ^ k = 0 := by
    obtain ⟨q, hq⟩ := Nat.dvd_of_mod_eq_zero h
    rw [hq, e, Nat.add_mul, ← Nat.mul_add]
    exact Nat.mul_mod_right _ _
  exact ⟨h0, by rw [Nat.add_mod, h0, Nat.mod_self]; rfl⟩
theorem gr_block {tk : Nat → Bool} {n : Nat} : ∀ (k s : Nat) (ts l : List (Nat × Nat)), Ok tk s k ts → s % 2 ^ k = 0 → s + 2 ^ k ≤ n → ¬ C tk n s (k + 1) → Gr tk n (s + 2 ^ k) l → Gr tk n s (fwF k s ts ++ l) := by
  intro k
  have free : ∀ (k s : Nat) (ts : List (Nat × Nat)), Ok tk s k ts → ts.filter (meetB s (2 ^ k)) = [] → ∀ c, s ≤ c → c < s + 2 ^ k → tk c = false := by
    intro k s ts ok he c a b
    cases ht : tk c with
    | false => rfl
    | true =>
      obtain ⟨t, h1, h2, h3⟩ := (ok.ag c a b).mp ht
      have : t ∈ ts.filter (meetB s (2 ^ k)) := List.mem_filter.mpr ⟨h1, meetB_iff.mpr ⟨by omega, by omega⟩⟩
      rw [he] at this
      cases this
  have full : ∀ (k s : Nat) (ts l : List (Nat × Nat)), Ok tk s k ts → (s, 2 ^ k) ∈ ts → s + 2 ^ k ≤ n → Gr tk n (s + 2 ^ k) l → Gr tk n s l := by
    intro k s ts l ok hm hn hg
    exact gr_skips (2 ^ k) s hn (fun c a b => (ok.ag c a b).mpr ⟨_, hm, a, b⟩) hg
  induction k with
  | zero =>
    intro s ts l ok al hn hc hg
    unfold fwF
    split
    · rename_i he
      exact .out (by have := pos2 0; omega) ⟨al, hn, free 0 s ts ok he⟩ hc hg
    · rename_i he
      obtain ⟨t, ht⟩ := List.exists_mem_of_ne_nil _ he
      obtain ⟨h1, h2⟩ := List.mem_filter.mp ht
      obtain ⟨h3, h4⟩ := meetB_iff.mp h2
      obtain ⟨h5, h6, j, h7, h8⟩ := ok.nest t h1 h3 h4
      have hj := pos2 j
      have : t = (s, 2 ^ 0) := by
        apply Prod.ext
        · show t.1 = s
          simp only [Nat.pow_zero] at h4 h6
          omega
        · show t.2 = 2 ^ 0
          simp only [Nat.pow_zero] at h4 h6 ⊢
          omega
      rw [this] at h1
      exact full 0 s ts l ok h1 hn hg
  | succ k ih =>
    intro s ts l ok al hn hc hg
    have e := succ2 k
    have hk := pos2 k
    unfold fwF
    split
    · rename_i he
      exact .out (by omega) ⟨al, hn, free (k + 1) s ts ok he⟩ hc hg
    · rename_i he
      split
      · rename_i hm
        exact full (k + 1) s ts l ok (List.mem_filter.mp hm).1 hn hg
      · rename_i hm
        obtain ⟨o1, o2⟩ := ok.filt.halves hm
        obtain ⟨a1, a2⟩ := half_al al
        rw [List.append_assoc]
        have nc : ¬ C tk n s (k + 1) := by
          intro ⟨_, _, hf⟩
          obtain ⟨t, ht⟩ := List.exists_mem_of_ne_nil _ he
          obtain ⟨h1, h2⟩ := List.mem_filter.mp ht
          obtain ⟨h3, h4⟩ := meetB_iff.mp h2
          obtain ⟨h5, h6, j, h7, h8⟩ := ok.nest t h1 h3 h4
          have hj := pos2 j
          have := (ok.ag t.1 h5 (by omega)).mpr ⟨t, h1, Nat.le_refl _, by omega⟩
          rw [hf t.1 h5 (by omega)] at this
          cases this
        refine ih s _ _ o1 a1 (by omega) nc ?_
        refine ih (s + 2 ^ k) _ _ o2 a2 (by omega) (fun z => not_next al z.1) ?_
        rw [Nat.add_assoc, ← e]
        exact hg
end M44
namespace M44
def whF : Nat → Nat → Nat → List (Nat × Nat)
  | 0, _, _ => []
  | f + 1, s, n => if s < n then (s, 2 ^ Nat.log2 (n - s)) :: whF f (s + 2 ^ Nat.log2 (n - s)) n else []
def Pc (n a b : Nat) : Prop := ∃ k, b = 2 ^ k ∧ a % 2 ^ k = 0 ∧ a + 2 ^ k ≤ n
inductive Ch (n : Nat) : Nat → List (Nat × Nat) → Prop where
  | nil {s : Nat} : n ≤ s → Ch n s []
  | cons {s e : Nat} {l : List (Nat × Nat)} : s < n → s % 2 ^ (e + 1) = 0 → s + 2 ^ e ≤ n → n < s + 2 ^ (e + 1) → Ch n (s + 2 ^ e) l → Ch n s ((s, 2 ^ e) :: l)
theorem mod_le {a j k : Nat} (h : a % 2 ^ k = 0) (hj : j ≤ k) : a % 2 ^ j = 0 :=
  Nat.mod_eq_zero_of_dvd (Nat.dvd_trans (Nat.pow_dvd_pow 2 hj) (Nat.dvd_of_mod_eq_zero h))
theorem pow_le_of {j k : Nat} (h : 2 ^ j ≤ 2 ^ k) : j ≤ k := (Nat.pow_le_pow_iff_right (by decide)).mp h
theorem pow_lt_of {j k : Nat} (h : 2 ^ j < 2 ^ k) : j < k := (Nat.pow_lt_pow_iff_right (by decide)).mp h
theorem wh_ch {n : Nat} : ∀ (f s g : Nat), n - s ≤ f → s % 2 ^ g = 0 → n < s + 2 ^ g → Ch n s (whF f s n)
  | 0, s, g, h, _, _ => .nil (by omega)
  | f + 1, s, g, h, h1, h2 => by
    unfold whF
    split
    · rename_i hs
      have a : 2 ^ Nat.log2 (n - s) ≤ n - s := Nat.log2_self_le (by omega)
      have b : n - s < 2 ^ (Nat.log2 (n - s) + 1) := Nat.lt_log2_self
      have c : Nat.log2 (n - s) < g := pow_lt_of (by omega)
      have d := pos2 (Nat.log2 (n - s))
      have m := mod_le h1 (show Nat.log2 (n - s) + 1 ≤ g from c)
      have e := succ2 (Nat.log2 (n - s))
      refine .cons hs m (by omega) (by omega) (wh_ch f _ (Nat.log2 (n - s)) (by omega) ?_ (by omega))
      rw [Nat.add_mod, mod_le m (Nat.le_succ _), Nat.mod_self]
      rfl
    · exact .nil (by omega)
theorem apart_mul {a b k : Nat} (ha : a % 2 ^ k = 0) (hb : b % 2 ^ k = 0) (h : a < b) : a + 2 ^ k ≤ b := by
  obtain ⟨p, rfl⟩ := Nat.dvd_of_mod_eq_zero ha
  obtain ⟨q, rfl⟩ := Nat.dvd_of_mod_eq_zero hb
  have h3 := pos2 k
  have : p < q := Nat.lt_of_mul_lt_mul_left h
  calc 2 ^ k * p + 2 ^ k = 2 ^ k * (p + 1) := by rw [Nat.mul_add, Nat.mul_one]
    _ ≤ 2 ^ k * q := Nat.mul_le_mul_left _ this
theorem sub_mod {a b k : Nat} (ha : a % 2 ^ k = 0) (hb : b % 2 ^ k = 0) : (a - b) % 2 ^ k = 0 := by
  obtain ⟨p, rfl⟩ := Nat.dvd_of_mod_eq_zero ha
  obtain ⟨q, rfl⟩ := Nat.dvd_of_mod_eq_zero hb
  rw [← Nat.mul_sub]
  exact Nat.mul_mod_right _ _
theorem add_mod0 {a b k : Nat} (ha : a % 2 ^ k = 0) (hb : b % 2 ^ k = 0) : (a + b) % 2 ^ k = 0 := by
  rw [Nat.add_mod, ha, hb]
  exact Nat.zero_mod _
theorem in_whole {n s e a k : Nat} (h1 : s % 2 ^ (e + 1) = 0) (h2 : s + 2 ^ e ≤ n) (h3 : n < s + 2 ^ (e + 1)) (ha : a % 2 ^ k = 0) (hn : a + 2 ^ k ≤ n) (m1 : s < a + 2 ^ k) (m2 : a < s + 2 ^ e) : s ≤ a ∧ a + 2 ^ k ≤ s + 2 ^ e ∧ (a - s) % 2 ^ k = 0 := by
  have ee := succ2 e
  have pk := pos2 k
  have pe := pos2 e
  rcases Nat.lt_or_ge e k with c | c
  · exfalso
    have ha' := mod_le ha (show e + 1 ≤ k from c)
    have hk' : (a + 2 ^ k) % 2 ^ (e + 1) = 0 := add_mod0 ha' (mod_le (Nat.mod_self _) c)
    have := apart_mul h1 hk' m1
    omega
  · have hs := mod_le h1 (show k ≤ e + 1 by omega)
    have he : (s + 2 ^ e) % 2 ^ k = 0 := add_mod0 hs (mod_le (Nat.mod_self _) c)
    refine ⟨?_, apart_mul ha he m2, sub_mod ha hs⟩
    rcases Nat.lt_or_ge a s with d | d
    · have := apart_mul ha hs d
      omega
    · exact d
theorem ch_pc {n a b : Nat} : ∀ {s : Nat} {ws : List (Nat × Nat)}, Ch n s ws → s ≤ a → Pc n a b → ∃ w ∈ ws, w.1 ≤ a ∧ a + b ≤ w.1 + w.2 ∧ (a - w.1) % b = 0 := by
  intro s ws h
  induction h with
  | @nil s h =>
    rintro hs ⟨k, rfl, _, h2⟩
    have := pos2 k
    omega
  | @cons s e l h1 h2 h3 h4 _ ih =>
    rintro hs ⟨k, rfl, ha, hn⟩
    rcases Nat.lt_or_ge a (s + 2 ^ e) with c | c
    · have pk := pos2 k
      obtain ⟨_, x, y⟩ := in_whole h2 h3 h4 ha hn (by omega) c
      exact ⟨_, List.mem_cons_self, hs, x, y⟩
    · obtain ⟨w, hw, r⟩ := ih c ⟨k, rfl, ha, hn⟩
      exact ⟨w, List.mem_cons_of_mem _ hw, r⟩
theorem ch_at {n : Nat} : ∀ {s : Nat} {ws : List (Nat × Nat)}, Ch n s ws → ∀ w ∈ ws, ∃ e, w.2 = 2 ^ e ∧ w.1 % 2 ^ (e + 1) = 0 ∧ w.1 + 2 ^ e ≤ n ∧ n < w.1 + 2 ^ (e + 1) := by
  intro s ws h
  induction h with
  | nil _ => intro w hw; cases hw
  | @cons s e l h1 h2 h3 h4 _ ih =>
    intro w hw
    rcases List.mem_cons.mp hw with rfl | hw
    · exact ⟨e, rfl, h2, h3, h4⟩
    · exact ih w hw
theorem pc_iff {n a b : Nat} {ws : List (Nat × Nat)} (h : Ch n 0 ws) (hb : ∃ k, b = 2 ^ k) : (∃ w ∈ ws, w.1 ≤ a ∧ a + b ≤ w.1 + w.2 ∧ (a - w.1) % b = 0) ↔ Pc n a b := by
  constructor
  · rintro ⟨w, hw, h1, h2, h3⟩
    obtain ⟨k, rfl⟩ := hb
    obtain ⟨e, he, m, x, y⟩ := ch_at h w hw
    rw [he] at h2
    have ke : k ≤ e := pow_le_of (by omega)
    refine ⟨k, rfl, ?_, by omega⟩
    have := add_mod0 (mod_le m (show k ≤ e + 1 by omega)) h3
    rwa [show w.1 + (a - w.1) = a by omega] at this
  · exact fun p => ch_pc h (Nat.zero_le _) p
def frF (ws ts : List (Nat × Nat)) : List (Nat × Nat) := ws.flatMap fun w => fwF (Nat.log2 w.2) w.1 ts
def tkF (ts : List (Nat × Nat)) (c : Nat) : Bool := ts.any fun t => decide (t.1 ≤ c) && decide (c < t.1 + t.2)
theorem tkF_iff {ts : List (Nat × Nat)} {c : Nat} : tkF ts c = true ↔ ∃ t ∈ ts, t.1 ≤ c ∧ c < t.1 + t.2 := by
  unfold tkF
  simp
theorem ch_ok {n s e : Nat} {ts : List (Nat × Nat)} (h2 : s % 2 ^ (e + 1) = 0) (h3 : s + 2 ^ e ≤ n) (h4 : n < s + 2 ^ (e + 1)) (hp : ∀ t ∈ ts, Pc n t.1 t.2) : Ok (tkF ts) s e ts where
  ag := fun c _ _ => tkF_iff
  nest := fun t ht m1 m2 => by
    obtain ⟨k, e1, e2, e3⟩ := hp t ht
    rw [e1] at m1 ⊢
    obtain ⟨x, y, z⟩ := in_whole h2 h3 h4 e2 e3 m1 m2
    exact ⟨x, y, k, rfl, z⟩
theorem ch_gr {n : Nat} {ts : List (Nat × Nat)} (hp : ∀ t ∈ ts, Pc n t.1 t.2) : ∀ {s : Nat} {ws : List (Nat × Nat)}, Ch n s ws → Gr (tkF ts) n s (frF ws ts) := by
  intro s ws h
  induction h with
  | nil h => exact .done h
  | @cons s e l h1 h2 h3 h4 _ ih =>
    unfold frF
    rw [List.flatMap_cons]
    show Gr _ _ _ (fwF (Nat.log2 (2 ^ e)) s ts ++ _)
    rw [Nat.log2_two_pow]
    exact gr_block e s ts _ (ch_ok h2 h3 h4 hp) (mod_le h2 (Nat.le_succ _)) h3 (fun c => by have := c.2.1; omega) ih
theorem gr_uniq {tk : Nat → Bool} {n p : Nat} {l l' : List (Nat × Nat)} (h : Gr tk n p l) : Gr tk n p l' → l = l' := by
  induction h generalizing l' with
  | done h =>
    intro h2
    cases h2 with
    | done _ => rfl
    | skip h3 _ _ => omega
    | out h3 _ _ _ => omega
  | skip h1 h2 _ ih =>
    intro h3
    cases h3 with
    | done h4 => omega
    | skip _ _ h5 => exact ih h5
    | @out _ k _ _ c _ _ => have := c.2.2 _ (Nat.le_refl _) (by have := pos2 k; omega); rw [h2] at this; cases this
  | @out p k l h1 h2 h3 _ ih =>
    intro h4
    cases h4 with
    | done h5 => omega
    | skip _ h6 _ => have := h2.2.2 _ (Nat.le_refl _) (by have := pos2 k; omega); rw [h6] at this; cases this
    | out _ h6 h7 h8 =>
      obtain rfl := C.uniq h2 h3 h6 h7
      rw [ih h8]
theorem gr_free {n : Nat} {ts l ws : List (Nat × Nat)} (hp : ∀ t ∈ ts, Pc n t.1 t.2) (hc : Ch n 0 ws) (hg : Gr (tkF ts) n 0 l) : l = frF ws ts := gr_uniq hg (ch_gr hp hc)
theorem tkF_perm {ts us : List (Nat × Nat)} (h : ∀ t, t ∈ ts ↔ t ∈ us) : tkF ts = tkF us := by
  funext c
  rw [Bool.eq_iff_iff, tkF_iff, tkF_iff]
  exact ⟨fun ⟨t, a, b⟩ => ⟨t, (h t).mp a, b⟩, fun ⟨t, a, b⟩ => ⟨t, (h t).mpr a, b⟩⟩
theorem frF_perm {n : Nat} {ts us ws : List (Nat × Nat)} (hp : ∀ t ∈ ts, Pc n t.1 t.2) (hc : Ch n 0 ws) (h : ∀ t, t ∈ ts ↔ t ∈ us) : frF ws ts = frF ws us := by
  have a := ch_gr hp hc
  rw [tkF_perm h] at a
  exact gr_free (fun t ht => hp t ((h t).mpr ht)) hc a
end M44
namespace K44
open PySem L2 PyProof.Rows
def top (i : Nat) : Stmt := PySem.Challenge.pw_slideroom_k44_pieces_made_anew.main.body.getD i (.Pass ⟨0, 0, 0, 0⟩)
abbrev s_is_whole : Stmt := top 8
theorem sc_is_whole : FnScope ["thing"] ["thing"] (defScope s_is_whole) := ⟨rfl, rfl, rfl, by decide +kernel, rfl, by decide +kernel, by decide +kernel⟩
abbrev s_is_from : Stmt := top 9
theorem sc_is_from : FnScope ["thing", "low"] ["thing", "low"] (defScope s_is_from) := ⟨rfl, rfl, rfl, by decide +kernel, rfl, by decide +kernel, by decide +kernel⟩
abbrev s_is_within : Stmt := top 10
theorem sc_is_within : FnScope ["thing", "low", "high"] ["thing", "low", "high"] (defScope s_is_within) := ⟨rfl, rfl, rfl, by decide +kernel, rfl, by decide +kernel, by decide +kernel⟩
abbrev s_is_many : Stmt := top 11
theorem sc_is_many : FnScope ["thing"] ["thing"] (defScope s_is_many) := ⟨rfl, rfl, rfl, by decide +kernel, rfl, by decide +kernel, by decide +kernel⟩
abbrev s_end_of : Stmt := top 13
theorem sc_end_of : FnScope ["stretch"] ["stretch"] (defScope s_end_of) := ⟨rfl, rfl, rfl, by decide +kernel, rfl, by decide +kernel, by decide +kernel⟩
abbrev s_share : Stmt := top 14
theorem sc_share : FnScope ["one", "other"] ["one", "other"] (defScope s_share) := ⟨rfl, rfl, rfl, by decide +kernel, rfl, by decide +kernel, by decide +kernel⟩
abbrev s_rounded : Stmt := top 16
theorem sc_rounded : FnScope ["size", "power"] ["size"] (defScope s_rounded) := ⟨rfl, rfl, rfl, by decide +kernel, rfl, by decide +kernel, by decide +kernel⟩
abbrev s_gpow : Stmt := top 17
theorem sc_gpow : FnScope ["most", "power"] ["most"] (defScope s_gpow) := ⟨rfl, rfl, rfl, by decide +kernel, rfl, by decide +kernel, by decide +kernel⟩
abbrev s_wholes : Stmt := top 18
theorem sc_wholes : FnScope ["many", "wholes", "start", "whole"] ["many"] (defScope s_wholes) := ⟨rfl, rfl, rfl, by decide +kernel, rfl, by decide +kernel, by decide +kernel⟩
abbrev s_cut : Stmt := top 19
theorem sc_cut : FnScope ["whole", "piece"] ["whole", "piece"] (defScope s_cut) := ⟨rfl, rfl, rfl, by decide +kernel, rfl, by decide +kernel, by decide +kernel⟩
abbrev s_piece : Stmt := top 20
theorem sc_piece : FnScope ["many", "start", "size"] ["many", "start", "size"] (defScope s_piece) := ⟨rfl, rfl, rfl, by decide +kernel, rfl, by decide +kernel, by decide +kernel⟩
abbrev s_fpiece : Stmt := top 21
theorem sc_fpiece : FnScope ["many", "start", "size", "taken"] ["many", "start", "size", "taken"] (defScope s_fpiece) := ⟨rfl, rfl, rfl, by decide +kernel, rfl, by decide +kernel, by decide +kernel⟩
abbrev s_fwithin : Stmt := top 22
theorem sc_fwithin : FnScope ["piece", "taken", "sharing", "half"] ["piece", "taken"] (defScope s_fwithin) := ⟨rfl, rfl, rfl, by decide +kernel, rfl, by decide +kernel, by decide +kernel⟩
abbrev s_fpieces : Stmt := top 23
theorem sc_fpieces : FnScope ["many", "taken", "told", "whole"] ["many", "taken"] (defScope s_fpieces) := ⟨rfl, rfl, rfl, by decide +kernel, rfl, by decide +kernel, by decide +kernel⟩
abbrev s_pieces : Stmt := top 24
theorem sc_pieces : FnScope ["many", "taken", "at", "row"] ["many", "taken"] (defScope s_pieces) := ⟨rfl, rfl, rfl, by decide +kernel, rfl, by decide +kernel, by decide +kernel⟩
abbrev s_lcell : Stmt := top 26
theorem sc_lcell : FnScope ["_law_script", "_law_k"] ["_law_script", "_law_k"] (defScope s_lcell) := ⟨rfl, rfl, rfl, by decide +kernel, rfl, by decide +kernel, by decide +kernel⟩
abbrev s_ldraws : Stmt := top 27
theorem sc_ldraws : FnScope ["_law_cell_here", "_law_many_here", "_law_found", "_law_number", "_law_k"] ["_law_cell_here", "_law_many_here"] (defScope s_ldraws) := ⟨rfl, rfl, rfl, by decide +kernel, rfl, by decide +kernel, by decide +kernel⟩
abbrev s_lwhole : Stmt := top 28
theorem sc_lwhole : FnScope ["_law_thing"] ["_law_thing"] (defScope s_lwhole) := ⟨rfl, rfl, rfl, by decide +kernel, rfl, by decide +kernel, by decide +kernel⟩
abbrev s_lrows : Stmt := top 29
theorem sc_lrows : FnScope ["_law_told_here", "_law_row"] ["_law_told_here"] (defScope s_lrows) := ⟨rfl, rfl, rfl, by decide +kernel, rfl, by decide +kernel, by decide +kernel⟩
abbrev s_lmany : Stmt := top 30
theorem sc_lmany : FnScope ["_law_cell_here", "_law_first", "_law_second"] ["_law_cell_here"] (defScope s_lmany) := ⟨rfl, rfl, rfl, by decide +kernel, rfl, by decide +kernel, by decide +kernel⟩
abbrev s_lfree : Stmt := top 31
theorem sc_lfree : FnScope ["_law_many_here", "_law_taken", "_law_cells", "_law_start", "_law_size", "_law_found", "_law_place"] ["_law_many_here", "_law_taken"] (defScope s_lfree) := ⟨rfl, rfl, rfl, by decide +kernel, rfl, by decide +kernel, by decide +kernel⟩
abbrev s_lpiece : Stmt := top 32
theorem sc_lpiece : FnScope ["_law_many_here", "_law_start", "_law_size", "_law_low", "_law_wide"] ["_law_many_here", "_law_start", "_law_size"] (defScope s_lpiece) := ⟨rfl, rfl, rfl, by decide +kernel, rfl, by decide +kernel, by decide +kernel⟩
abbrev s_lmeets : Stmt := top 33
theorem sc_lmeets : FnScope ["_law_row", "_law_rows_here", "_law_start", "_law_size"] ["_law_row", "_law_rows_here"] (defScope s_lmeets) := ⟨rfl, rfl, rfl, by decide +kernel, rfl, by decide +kernel, by decide +kernel⟩
abbrev s_ldrawn : Stmt := top 34
theorem sc_ldrawn : FnScope ["_law_many_here", "_law_cell_here", "_law_first", "_law_second", "_law_size"] ["_law_many_here", "_law_cell_here"] (defScope s_ldrawn) := ⟨rfl, rfl, rfl, by decide +kernel, rfl, by decide +kernel, by decide +kernel⟩
abbrev s_lspoil : Stmt := top 35
theorem sc_lspoil : FnScope ["_law_rows_here", "_law_many_here", "_law_cell_here", "_law_kind", "_law_first", "_law_second", "_law_third", "_law_starts", "_law_sizes", "_law_start", "_law_size", "_law_wide"] ["_law_rows_here", "_law_many_here", "_law_cell_here"] (defScope s_lspoil) := ⟨rfl, rfl, rfl, by decide +kernel, rfl, by decide +kernel, by decide +kernel⟩
abbrev s_ldue : Stmt := top 36
theorem sc_ldue : FnScope ["_law_many_here", "_law_rows_here", "_law_ahead", "_law_row"] ["_law_many_here", "_law_rows_here"] (defScope s_ldue) := ⟨rfl, rfl, rfl, by decide +kernel, rfl, by decide +kernel, by decide +kernel⟩
abbrev s_lrefused : Stmt := top 37
theorem sc_lrefused : FnScope ["_law_many_here", "_law_rows_here", "_law_due_here", "e"] ["_law_many_here", "_law_rows_here", "_law_due_here"] (defScope s_lrefused) := ⟨rfl, rfl, rfl, by decide +kernel, rfl, by decide +kernel, by decide +kernel⟩
abbrev s_ltold : Stmt := top 38
theorem sc_ltold : FnScope ["_law_many_here", "_law_rows_here", "_law_handed", "_law_told_here", "_law_due_here"] ["_law_many_here", "_law_rows_here"] (defScope s_ltold) := ⟨rfl, rfl, rfl, by decide +kernel, rfl, by decide +kernel, by decide +kernel⟩
abbrev s_law : Stmt := top 39
theorem sc_law : FnScope ["_law_script", "_law_many_here", "_law_rows_here", "_law_cell_here", "_law_row", "_law_spoiler_here", "_law_kind", "_law_place", "_law_second", "_law_spoilt", "_law_due_here"] ["_law_script"] (defScope s_law) := ⟨rfl, rfl, rfl, by decide +kernel, rfl, by decide +kernel, by decide +kernel⟩
abbrev i_NoMany : Stmt := inClass (top 2) 0
theorem si_NoMany : FnScope ["self", "many"] ["self", "many"] (defScope i_NoMany) := ⟨rfl, rfl, rfl, by decide +kernel, rfl, by decide +kernel, by decide +kernel⟩
theorem I_NoMany {P : Program} {w : World} {K : PySem.W.Frag} {mg : Str → Option Value} {base : Heap} {C : Addr} (S : ExcS K C) (n0 : NoAttr K C "many") : InitOk P w K mg base CX0 "NoMany.__init__" i_NoMany ["self", "many"] (spI1 C "many") := fun f fd F => by
  refine ⟨F.ok si_NoMany (fun vs H Q E h => ?_) (fun cdv A outer s H vs Q E hr h => ?_), F.binds (fun _ _ _ _ _ _ us hl => match us, hl with | [_, _], _ => rfl)⟩
  · obtain ⟨x, v, rfl, _⟩ := h
    rfl
  · obtain ⟨x, v, rfl, ho, k⟩ := h
    refine ⟨_, pss_one (ps_exc (pv 0) (pv 1)), ?_⟩
    exact ⟨_, rfl, _, rfl, x, C, rfl, S, n0.taker, .inl ⟨ho, k⟩⟩
abbrev i_NotFree : Stmt := inClass (top 4) 0
theorem si_NotFree : FnScope ["self", "start", "size"] ["self", "start", "size"] (defScope i_NotFree) := ⟨rfl, rfl, rfl, by decide +kernel, rfl, by decide +kernel, by decide +kernel⟩
theorem I_NotFree {P : Program} {w : World} {K : PySem.W.Frag} {mg : Str → Option Value} {base : Heap} {C : Addr} (S : ExcS K C) (n0 : NoAttr K C "start") (n1 : NoAttr K C "size") : InitOk P w K mg base CX0 "NotFree.__init__" i_NotFree ["self", "start", "size"] (spI2 C "start" "size") := fun f fd F => by
  refine ⟨F.ok si_NotFree (fun vs H Q E h => ?_) (fun cdv A outer s H vs Q E hr h => ?_), F.binds (fun _ _ _ _ _ _ us hl => match us, hl with | [_, _, _], _ => rfl)⟩
  · obtain ⟨x, v, y, rfl, _⟩ := h
    rfl
  · obtain ⟨x, v, y, rfl, ho, k⟩ := h
    refine ⟨_, pss_cons (ps_exc (pv 0) (pv 1)) (pss_one (ps_exc (pv 0) (pv 2))), ?_⟩
    refine ⟨_, rfl, _, rfl, x, C, rfl, S, n0.taker, .inl ⟨ho, fun dx hd => ?_⟩⟩
    have hzx : dx ≠ x := fun q => by rw [q, ho] at hd; cases hd
    exact ⟨_, rfl, _, rfl, x, C, rfl, S, n1.taker, .inr ⟨dx, _, upd_same, by rw [upd_ne hzx, upd_same], hzx, by simp, k dx hd⟩⟩
structure Txt (K : PySem.W.Frag) (mg : Str → Option Value) (c : Nat → Addr) (R  : Addr) : Prop where
  e_NoMany : HasExc K mg "NoMany" "NoMany.__init__" i_NoMany (c 0) R
  k_NoMany : ExcK K (c 0) R
  a_NoMany_many : NoAttr K (c 0) "many"
  e_NotFree : HasExc K mg "NotFree" "NotFree.__init__" i_NotFree (c 1) R
  k_NotFree : ExcK K (c 1) R
  a_NotFree_start : NoAttr K (c 1) "start"
  a_NotFree_size : NoAttr K (c 1) "size"
  d_is_whole : HasDef K mg "is_whole" s_is_whole
  d_is_from : HasDef K mg "is_from" s_is_from
  d_is_within : HasDef K mg "is_within" s_is_within
  d_is_many : HasDef K mg "is_many" s_is_many
  d_end_of : HasDef K mg "end_of" s_end_of
  d_share : HasDef K mg "share_cells" s_share
  d_rounded : HasDef K mg "rounded" s_rounded
  d_gpow : HasDef K mg "greatest_power" s_gpow
  d_wholes : HasDef K mg "wholes_of" s_wholes
  d_cut : HasDef K mg "is_cut_from" s_cut
  d_piece : HasDef K mg "is_piece" s_piece
  d_fpiece : HasDef K mg "is_free_piece" s_fpiece
  d_fwithin : HasDef K mg "free_within" s_fwithin
  d_fpieces : HasDef K mg "free_pieces" s_fpieces
  d_pieces : HasDef K mg "pieces_of" s_pieces
  d_lcell : HasDef K mg "_law_cell" s_lcell
  d_ldraws : HasDef K mg "_law_draws" s_ldraws
  d_lwhole : HasDef K mg "_law_whole" s_lwhole
  d_lrows : HasDef K mg "_law_rows" s_lrows
  d_lmany : HasDef K mg "_law_many" s_lmany
  d_lfree : HasDef K mg "_law_free" s_lfree
  d_lpiece : HasDef K mg "_law_piece" s_lpiece
  d_lmeets : HasDef K mg "_law_meets" s_lmeets
  d_ldrawn : HasDef K mg "_law_drawn" s_ldrawn
  d_lspoil : HasDef K mg "_law_spoiler" s_lspoil
  d_ldue : HasDef K mg "_law_due" s_ldue
  d_lrefused : HasDef K mg "_law_refused" s_lrefused
  d_ltold : HasDef K mg "_law_told" s_ltold
  n_isinstance : mg "isinstance" = none
  n_int : mg "int" = none
  n_bool : mg "bool" = none
  n_list : mg "list" = none
  n_tuple : mg "tuple" = none
  n_len : mg "len" = none
  n_any : mg "any" = none
  n_range : mg "range" = none
  n_max : mg "max" = none
  n_sum : mg "sum" = none
  n_repr : mg "repr" = none
  g_FEWEST_CELLS : GlobIs mg "FEWEST_CELLS" (.int 16)
  g_MOST_CELLS : GlobIs mg "MOST_CELLS" (.int 240)
  g_R : mg "RoomError" = some (.ref R)
  c_R : (PySem.W.clsIn K R).isSome = true
  t_R : PySem.W.typeIn K (.ref R) = some (.type "type")
  m_R : PySem.W.mroIn K R (.type "BaseException") = some true
local macro_rules | `(tactic| k_tabat) => `(tactic| first
  | with_reducible assumption
  | (with_reducible exact New.e (by with_reducible assumption))
  | (with_reducible refine New.at (by with_reducible assumption) ?_; k_tabat)
  | (with_reducible refine Off.at (by with_reducible assumption) (by k_ne) ?_; k_tabat)
  | (with_reducible refine Kp.at (by with_reducible assumption) (by k_ne) ?_; k_tabat)
  | (with_reducible refine Same.at (by with_reducible assumption) ?_; k_tabat))
local macro_rules | `(tactic| k_ne) => `(tactic| first
  | with_reducible assumption
  | (with_reducible exact Ne.symm (by with_reducible assumption))
  | (with_reducible exact New.neA (by with_reducible assumption) (by k_in))
  | (with_reducible exact New.neB (by with_reducible assumption) (by k_in)))
local macro_rules | `(tactic| k_in) => `(tactic| first
  | (with_reducible exact Hs.of (by with_reducible assumption))
  | (with_reducible exact New.hs (by with_reducible assumption))
  | (with_reducible refine New.hsAt (by with_reducible assumption) ?_; k_in)
  | (with_reducible refine Off.hsAt (by with_reducible assumption) (by k_ne) ?_; k_in)
  | (with_reducible refine Kp.hsAt (by with_reducible assumption) (by k_ne) ?_; k_in)
  | (with_reducible refine Same.hsAt (by with_reducible assumption) ?_; k_in))
local macro_rules | `(tactic| k_flat) => `(tactic| first
  | with_reducible assumption
  | (with_reducible exact SqL.of (by k_tabat))
  | (with_reducible exact SqT.of (by k_tabat))
  | (with_reducible refine Same.seq (by with_reducible assumption) ?_; k_flat)
  | (with_reducible refine Same.seq (New.s (by with_reducible assumption)) ?_; k_flat)
  | (with_reducible refine Off.seq (by with_reducible assumption) (by k_ne) ?_; k_flat))
local macro_rules | `(tactic| k_keys) => `(tactic| first
  | with_reducible assumption
  | (with_reducible exact atI_0)
  | (with_reducible exact atL1)
  | (with_reducible exact atL2)
  | (with_reducible exact atL3)
  | with_unfolding_all rfl)
local macro_rules | `(tactic| k_room) => `(tactic| first
  | with_reducible assumption
  | decide
  | omega
  | (simp only [List.length_cons, List.length_nil, List.length_map, List.length_append, List.length_replicate]; omega))
local macro_rules | `(tactic| k_inst) => `(tactic| first
  | (with_reducible refine small_line ?_; first | omega | (simp only [List.length_cons, List.length_nil, List.length_map, List.length_append, List.length_replicate, rowsN_len]; omega))
  | (with_reducible refine small_lt ?_; first | omega | (simp only [List.length_cons, List.length_nil, List.length_map, List.length_append, List.length_replicate, rowsN_len]; omega))
  | with_unfolding_all exact Nat.le_of_ble_eq_true rfl
  | omega)
local macro_rules | `(tactic| k_upd) => `(tactic| first
  | with_reducible assumption
  | (intro b u e; k_tabat))
local macro_rules | `(tactic| k_updF) => `(tactic| first
  | with_reducible assumption
  | (intro b u nb e; k_tabat))
local macro_rules | `(tactic| k_all) => `(tactic| first
  | with_reducible assumption
  | (refine ⟨?_, ?_, ?_⟩; (focus (intro b u e; k_tabat)); (focus k_tabat); (focus (intro b u e; k_ne))))
local macro_rules | `(tactic| k_mem) => `(tactic| with_reducible (first
  | refine go_seq ?_ | refine go_asg ?_ | refine go_ret ?_ | refine go_if ?_ | refine go_drop ?_ | refine go_next ?_ | refine go_nx ?_ | refine w_rt ?_
  | refine go_test ?_ | refine go_b ?_ | refine go_op ?_ | refine go_cb ?_ | refine go_cons ?_ | refine go_nil ?_ | refine w_call ?_ | refine w_c ?_
  | refine wv0 ?_ | refine wv1 ?_ | refine wv2 ?_ | refine wv3 ?_ | refine wv4 ?_ | refine wv5 ?_ | refine wv6 ?_ | refine wv7 ?_ | refine wv8 ?_ | refine wv9 ?_ | refine wv10 ?_ | refine wv11 ?_ | refine wv12 ?_ | refine wv13 ?_
  | refine wn0 ?_ | refine wn1 ?_ | refine wn2 ?_ | refine wn3 ?_ | refine wn4 ?_ | refine wn5 ?_ | refine wn6 ?_ | refine wn7 ?_ | refine wn8 ?_ | refine wn9 ?_ | refine wn10 ?_ | refine wn11 ?_ | refine wn12 ?_ | refine wn13 ?_
  | refine w_i0 ?_ | refine w_u ?_ | refine w_un ?_ | refine w_eqi ?_ | refine w_nei ?_ | refine w_eqs ?_ | refine w_nes ?_ | refine w_eqb ?_ | refine w_neb ?_ | refine w_bl ?_ | refine w_not ?_ | refine w_and ?_ | refine w_or ?_ | refine w_notV ?_ | refine w_andV ?_ | refine w_orV ?_
  | refine w_ifE ?_ | refine w_chain ?_ | refine w_bm ?_ | refine w_bm0 ?_ | refine w_sub ?_ | refine w_slice ?_ | refine w_noPart ?_ | refine w_part ?_ | refine w_int ?_ | refine w_max ?_ | refine w_min ?_ | refine w_intB ?_ | refine w_intI ?_
  | refine w_mod (by decide) ?_ | refine w_div (by decide) (by decide) ?_ | refine w_pow (by decide) (by decide) (by decide) ?_ | refine w_mulL (by decide) (by decide) ?_ | refine w_mulR (by decide) (by decide) ?_ | refine go_tupA ?_ | refine go_lstA ?_ | refine w_notT ?_ | refine w_isB ?_ | refine w_isNB ?_ | refine w_revSl ?_ | refine w_din ?_ | refine w_dput ?_ | refine go_fs ?_ | refine go_fmt ?_ | refine go_fld ?_ | refine go_methB ?_ | refine go_makeB ?_ | refine go_sfldB ?_))
set_option hygiene false in
local macro_rules | `(tactic| k_meth) => `(tactic| first
  | k_mem
  | with_reducible (refine w_isTT (by k_tabat) ?_)
  | with_reducible (refine w_isLL (by k_tabat) ?_)
  | with_reducible (refine w_isTL (by k_tabat) ?_)
  | with_reducible (refine w_isLT (by k_tabat) ?_)
  | with_reducible refine w_isII ?_
  | with_reducible refine w_isIB ?_
  | with_reducible refine w_isBB ?_
  | with_reducible refine w_isBI ?_
  | with_reducible (refine w_ixL (by k_flat) (by k_keys) ?_)
  | with_reducible (refine w_ixT (by k_flat) (by k_keys) ?_)
  | with_reducible (refine w_lenL (by k_flat) ?_)
  | with_reducible (refine w_lenT (by k_flat) ?_)
  | with_reducible (refine made_ok (by k_inst) ?_; intro _ _ _)
  | with_reducible (refine w_tyL (by k_flat) ?_)
  | with_reducible (refine w_app (by k_tabat) (by k_inst) ?_; intro _ _ _)
  | with_reducible (refine w_clr (by k_tabat) ?_; intro _ _ _)
  | with_reducible (refine w_slA (by k_flat) ?_; intro _ _ _)
  | with_reducible (refine w_catA (by k_tabat) (by k_tabat) (by k_inst) ?_; intro _ _ _)
  | with_reducible (refine w_lofL (by k_flat) ?_; intro _ _ _)
  | with_reducible (refine w_rep1 (by k_tabat) (by omega) ?_; intro _ _ _)
  | with_reducible (refine i_pos (by k_room) ?_)
  | with_reducible (refine i_neg (by k_room) ?_)
  | with_reducible (refine i_npos (by k_room) ?_)
  | with_reducible (refine i_nneg (by k_room) ?_)
  | with_reducible (refine i_tt ?_)
  | with_reducible (refine i_ff ?_)
  | with_reducible (refine i_ntt ?_)
  | with_reducible (refine i_nff ?_)
  | with_reducible (refine w_tupB (by with_unfolding_all rfl) (by k_flat) ?_)
  | with_reducible (refine go_aug rfl ?_)
  | with_reducible refine w_not2 ?_
  | with_reducible refine go_ck ?_
  | with_reducible refine go_slc ?_
  | with_reducible (refine w_mod (by omega) ?_)
  | with_reducible (refine w_rng2 ?_)
  | with_reducible refine w_forE ?_
  | with_reducible refine w_forR1 ?_
  | with_reducible refine w_forR2 ?_
  | with_reducible refine w_forL ?_
  | with_reducible refine w_compL ?_)
section
variable {P : Program} {w : World} {K : PySem.W.Frag} {mg : Str → Option Value} {base : Heap} {c : Nat → Addr} {R  : Addr}
theorem D_is_whole (T : Txt K mg c R ) : Def P w K mg base CX0 1 "is_whole" ["thing"] (sp_whole K) := by
  refine def_of T.d_is_whole sc_is_whole (fun vs H Q E h => ?_) (fun _ _ _ _ _ _ us hl => match us, hl with | [_], _ => rfl) (fun f cdv A outer s H vs Q E hr h => ?_)
  · obtain ⟨x, n, rfl, _⟩ := h
    rfl
  · obtain ⟨x, n, rfl, ty, k⟩ := h
    have nd := sc_is_whole.nd
    refine ⟨_, (pss_one (ps_ret (pe_and (pe_callB call_isT rfl T.n_isinstance boot_isinstance (pa_cons (pv 0) (pa_cons (pe_ty (T := "int") rfl T.n_int boot_int) pa_nil))) (pe_one (pe_not (pe_callB call_isT rfl T.n_isinstance boot_isinstance (pa_cons (pv 0) (pa_cons (pe_ty (T := "bool") rfl T.n_bool boot_bool) pa_nil)))))))), ?_⟩
    clear nd 
    rw [show start ["thing"] [x] = [some (x)] from rfl]
    try dsimp only [cx_K, cx_K2]
    rw [isW_eq] at k
    repeat k_mem
    refine w_is ty (bt_int ty) ?_
    repeat k_mem
    refine i_b (fun h => ?_) (fun h => ?_)
    · repeat k_mem
      refine w_is ty (bt_bool ty) ?_
      repeat k_mem
      rw [h] at k
      exact k
    · rw [h] at k
      exact k
theorem D_is_from (T : Txt K mg c R ) : Def P w K mg base CX0 2 "is_from" ["thing", "low"] (sp_is_from K) := by
  have D_is_whole := D_is_whole (P := P) (w := w) (base := base) T
  refine def_of T.d_is_from sc_is_from (fun vs H Q E h => ?_) (fun _ _ _ _ _ _ us hl => match us, hl with | [_, _], _ => rfl) (fun f cdv A outer s H vs Q E hr h => ?_)
  · obtain ⟨x, n, lo, rfl, _⟩ := h
    rfl
  · obtain ⟨x, n, lo, rfl, ty, k⟩ := h
    have nd := sc_is_from.nd
    refine ⟨_, (pss_one (ps_ret (pe_and (pe_def D_is_whole hr (pa_cons (pv 0) pa_nil)) (pe_one (pe_cmpR op_le (pv 1) (pv 0) (nomark _)))))), ?_⟩
    clear nd D_is_whole
    rw [show start ["thing", "low"] [x, .int lo] = [some (x), some (.int lo)] from rfl]
    try dsimp only [cx_K, cx_K2]
    repeat k_mem
    refine u_whole ty ?_
    repeat k_mem
    cases x with
    | int i =>
      refine i_T rfl ?_
      repeat k_mem
      exact k
    | _ => exact i_F rfl k
theorem D_is_within (T : Txt K mg c R ) : Def P w K mg base CX0 2 "is_within" ["thing", "low", "high"] (sp_is_within K) := by
  have D_is_whole := D_is_whole (P := P) (w := w) (base := base) T
  refine def_of T.d_is_within sc_is_within (fun vs H Q E h => ?_) (fun _ _ _ _ _ _ us hl => match us, hl with | [_, _, _], _ => rfl) (fun f cdv A outer s H vs Q E hr h => ?_)
  · obtain ⟨x, n, lo, hi, rfl, _⟩ := h
    rfl
  · obtain ⟨x, n, lo, hi, rfl, ty, k⟩ := h
    have nd := sc_is_within.nd
    refine ⟨_, (pss_one (ps_ret (pe_and (pe_def D_is_whole hr (pa_cons (pv 0) pa_nil)) (pe_one (pe_chain op_le op_le (pv 1) (pv 0) (pv 2)))))), ?_⟩
    clear nd D_is_whole
    rw [show start ["thing", "low", "high"] [x, .int lo, .int hi] = [some (x), some (.int lo), some (.int hi)] from rfl]
    try dsimp only [cx_K, cx_K2]
    repeat k_mem
    refine u_whole ty ?_
    repeat k_mem
    cases x with
    | int i =>
      refine i_T rfl ?_
      repeat k_mem
      have k : Q (.bl (decide (lo ≤ i) && decide (i ≤ hi))) H := k
      refine i_dec (fun h => ?_) (fun h => ?_)
      · repeat k_mem
        rw [decide_eq_true h, Bool.true_and] at k
        exact k
      · rw [decide_eq_false h, Bool.false_and] at k
        exact k
    | _ => exact i_F rfl k
theorem D_is_many (T : Txt K mg c R ) : Def P w K mg base CX0 3 "is_many" ["thing"] (sp_is_many K) := by
  have D_is_within := D_is_within (P := P) (w := w) (base := base) T
  refine def_of T.d_is_many sc_is_many (fun vs H Q E h => ?_) (fun _ _ _ _ _ _ us hl => match us, hl with | [_], _ => rfl) (fun f cdv A outer s H vs Q E hr h => ?_)
  · obtain ⟨x, n, rfl, _⟩ := h
    rfl
  · obtain ⟨x, n, rfl, ty, k⟩ := h
    have nd := sc_is_many.nd
    refine ⟨_, (pss_one (ps_ret (pe_def D_is_within hr (pa_cons (pv 0) (pa_cons (pe_gl T.g_FEWEST_CELLS) (pa_cons (pe_gl T.g_MOST_CELLS) pa_nil)))))), ?_⟩
    clear nd D_is_within
    rw [show start ["thing"] [x] = [some (x)] from rfl]
    try dsimp only [cx_K, cx_K2]
    repeat k_mem
    exact u_within ty k
theorem D_end_of (T : Txt K mg c R ) : Def P w K mg base CX0 1 "end_of" ["stretch"] sp_end_of := by
  refine def_of T.d_end_of sc_end_of (fun vs H Q E h => ?_) (fun _ _ _ _ _ _ us hl => match us, hl with | [_], _ => rfl) (fun f cdv A outer s H vs Q E hr h => ?_)
  · obtain ⟨q, a, b, rfl, _⟩ := h
    rfl
  · obtain ⟨q, a, b, rfl, h, k⟩ := h
    have nd := sc_end_of.nd
    refine ⟨_, (pss_one (ps_ret (pe_op op_add (pe_ix ix_tup (pv 0) pe_int (fun _ _ => rfl)) (pe_ix ix_tup (pv 0) pe_int (fun _ _ => rfl))))), ?_⟩
    clear nd 
    rw [show start ["stretch"] [.ref q] = [some (.ref q)] from rfl]
    try dsimp only [cx_K, cx_K2]
    repeat k_meth
    exact k
end
end K44
namespace K44
open PySem L2 PyProof.Rows
local macro_rules | `(tactic| k_room) => `(tactic| first
  | with_reducible assumption
  | with_unfolding_all exact rfl
  | with_unfolding_all exact Nat.le_of_ble_eq_true rfl
  | omega
  | (with_reducible refine small_line ?_; first | omega | (simp only [List.length_cons, List.length_nil, List.length_map, List.length_append, List.length_replicate, rowsN_len, List.length_take, List.length_drop, List.length_set]; omega))
  | (with_reducible refine small_lt ?_; first | omega | (simp only [List.length_cons, List.length_nil, List.length_map, List.length_append, List.length_replicate, rowsN_len, List.length_take, List.length_drop, List.length_set]; omega))
  | (simp only [List.length_cons, List.length_nil, List.length_map, List.length_append, List.length_replicate, rowsN_len, List.length_take, List.length_drop, List.length_set]; omega)
  | decide)
local macro_rules | `(tactic| k_mem) => `(tactic| first
  | with_reducible assumption
  | decide
  | omega
  | (simp only [List.length_cons, List.length_nil, List.length_map, List.length_append, List.length_replicate, rowsN_len, List.length_take, List.length_drop, List.length_set]; omega))
set_option hygiene false in
local macro_rules | `(tactic| k_meth) => `(tactic| first
  | with_reducible refine go1 ?_
  | (intro H_ a_ dx_ (F_ : SH _ _ _ _ _) (ex_ : ExcT _ _ _ _); clear F; (have F := F_); clear F_; have exA_ := ExA.mk ex_)
  | (intro H_ (F_ : SH _ _ _ _ _); clear F; (have F := F_); clear F_)
  | (intro H_ p_ (F_ : SH _ _ _ _ _); clear F; (have F := F_); clear F_)
  | (intro H_ x_ dx_ (F_ : SH _ _ _ _ _); clear F; (have F := F_); clear F_)
  | (intro H_ p_ ys_ l_ (F_ : SH _ _ _ _ _); clear F; (have F := F_); clear F_)
  | with_reducible refine sd (by k_room) ?_
  | (intro (r_ : Int) (x_ : Int) (y_ : Int) (z_ : Int) lo_ hi_)
  | (intro (x_ : Int) (y_ : Int))
  | (intro (c_ : Int))
  | with_reducible refine i_pos (by k_mem) ?_
  | with_reducible refine i_neg (by k_mem) ?_
  | with_reducible refine i_npos (by k_mem) ?_
  | with_reducible refine i_nneg (by k_mem) ?_)
theorem while_m {c : TT} {tb : TS} {D : Ends} {σ : L2.St} {H : Hp} (Pv : Nat → L2.St → Hp → Prop) (h0 : ∃ m, Pv m σ H)
    (hs : ∀ m σ H, Pv m σ H → c σ H fun b H1 => if b = true then ∃ N : L2.St → Hp → Prop, (∀ σ' H', N σ' H' → ∃ m', m' < m ∧ Pv m' σ' H') ∧ tb { D with nx := N, ct := N, bk := D.nx } σ H1 else D.nx σ H1) : tWhile c tb D σ H := ⟨Pv, h0, hs⟩
open M44
def IsR (i : Nat) (r : Nat) : Prop := ∃ k, r = 2 ^ k ∧ i ≤ 2 ^ k ∧ (k = 0 ∨ 2 ^ (k - 1) < i)
theorem isR_self {i r : Nat} (h1 : 1 ≤ i) (h : IsR i r) : r = i ↔ ∃ k, i = 2 ^ k := by
  obtain ⟨k, rfl, h2, h3⟩ := h
  constructor
  · exact fun e => ⟨k, e.symm⟩
  · rintro ⟨j, rfl⟩
    have a := pow_le_of h2
    rcases h3 with rfl | h3
    · rw [show j = 0 by omega]
    · have b := pow_lt_of h3
      rw [show k = j by omega]
theorem lg_uniq {m k : Nat} (h1 : 2 ^ k ≤ m) (h2 : m < 2 ^ (k + 1)) : 2 ^ k = 2 ^ Nat.log2 m := by
  have m0 : m ≠ 0 := by have := pos2 k; omega
  have a : 2 ^ Nat.log2 m ≤ m := Nat.log2_self_le m0
  have b : m < 2 ^ (Nat.log2 m + 1) := Nat.lt_log2_self
  have c := pow_lt_of (j := k) (k := Nat.log2 m + 1) (by omega)
  have d := pow_lt_of (j := Nat.log2 m) (k := k + 1) (by omega)
  rw [show k = Nat.log2 m by omega]
theorem rowsN_snoc (ws : List (Nat × Nat)) (w : Nat × Nat) : rowsN (ws ++ [w]) = rowsN ws ++ [[V.int (w.1 : Nat), V.int (w.2 : Nat)]] := by unfold rowsN; rw [List.map_append]; rfl
theorem rowsN_at {H : Hp} {ws : List (Nat × Nat)} {ys : List V} {i : Nat} {v : V} (h : TupsAt H ys (rowsN ws)) (e : ys[i]? = some v) : ∃ w q, ws[i]? = some w ∧ v = .ref q ∧ H q = some (.tup [.int (w.1 : Nat), .int (w.2 : Nat)]) := by
  obtain ⟨r, q, e1, e2, e3⟩ := tups_at h e
  unfold rowsN at e1
  rw [List.getElem?_map] at e1
  cases e4 : ws[i]? with
  | none => rw [e4] at e1; cases e1
  | some w =>
    rw [e4] at e1
    cases e1
    exact ⟨w, q, rfl, e2, e3⟩
theorem rowsN_len {H : Hp} {ws : List (Nat × Nat)} {ys : List V} (h : TupsAt H ys (rowsN ws)) : ys.length = ws.length := by rw [h.1]; unfold rowsN; rw [List.length_map]
theorem comp_prs {K : PySem.W.Frag} {l : Addr} {ys : List V} {ws : List (Nat × Nat)} {G : Nat × Nat → V} {te : TE} {σ fvs : L2.St} {fr : List Nat} {H : Hp} {Q : VK} (hq : SqL K H l ys) (tp : TupsAt H ys (rowsN ws)) (hz : ys.length ≤ 1000000) (hf : (fr.map fun i => (σ[i]?).getD none) = fvs)
    (turn : ∀ (w : Nat × Nat) (q : Addr) (H' : Hp) (R : VK), w ∈ ws → Same H H' → H' q = some (.tup [.int (w.1 : Nat), .int (w.2 : Nat)]) → (∀ H2, Same H' H2 → R (G w) H2) → te (some (.ref q) :: fvs) H' R)
    (k : ∀ p H', New H H' p (.lst (ws.map G)) → Q (.ref p) H') : CompAll (Itl K l) 1 fr (gName 0) tTrue te σ H Q := by
  refine comp_map (P := fun i y => ∃ w, ws[i]? = some w ∧ y = G w) (items_list (xs := ys)) hz hf (fun H' s => s.seq hq) (fun i v H' R hv s kk => ?_) fun p H' zs n hl hP => k p H' ?_
  · obtain ⟨w, q, e1, rfl, e2⟩ := rowsN_at tp hv
    exact turn w q H' R (List.mem_of_getElem? e1) s (s _ _ e2) fun H2 s2 => kk _ _ s2 ⟨w, e1, rfl⟩
  · have e : zs = ws.map G := by
      apply List.ext_getElem?
      intro i
      rw [List.getElem?_map]
      by_cases hi : i < zs.length
      · obtain ⟨v, e1, e2⟩ := hP i zs[i] (by simp)
        rw [e1, List.getElem?_eq_getElem hi, e2]
        rfl
      · rw [List.getElem?_eq_none (by omega), List.getElem?_eq_none (by rw [← rowsN_len tp]; omega)]
        rfl
    rw [e] at n
    exact n
noncomputable def tr (p : Prop) : Bool := @decide p (Classical.propDecidable p)
theorem tr_T {p : Prop} (h : p) : tr p = true := @decide_eq_true p (Classical.propDecidable p) h
theorem tr_F {p : Prop} (h : ¬ p) : tr p = false := @decide_eq_false p (Classical.propDecidable p) h
theorem tr_iff {p : Prop} : tr p = true ↔ p := ⟨fun h => Classical.byContradiction (fun n => by rw [tr_F n] at h; exact absurd h (by decide)), tr_T⟩
def CutP (w0 w1 a b : Nat) : Prop := w0 ≤ a ∧ a + b ≤ w0 + w1 ∧ (∃ k, b = 2 ^ k) ∧ (a - w0) % b = 0
def PcV (n : Nat) (v u : V) : Prop := ∃ a b : Nat, v = .int (a : Nat) ∧ u = .int (b : Nat) ∧ Pc n a b
def FpV (n : Nat) (v u : V) (ts : List (Nat × Nat)) : Prop := ∃ a b : Nat, v = .int (a : Nat) ∧ u = .int (b : Nat) ∧ Pc n a b ∧ ∀ t ∈ ts, meetB a b t = false
theorem fpv_iff {n a b : Nat} {ts : List (Nat × Nat)} : FpV n (.int (a : Nat)) (.int (b : Nat)) ts ↔ Pc n a b ∧ ∀ t ∈ ts, meetB a b t = false := ⟨fun ⟨c, d, e1, e2, h⟩ => by
  rw [show a = c by have := V.int.inj e1; omega, show b = d by have := V.int.inj e2; omega]
  exact h, fun h => ⟨a, b, rfl, rfl, h⟩⟩
theorem meet_cast {a b : Nat} {w : Nat × Nat} : (decide ((a : Int) < (w.1 : Int) + (w.2 : Int)) && decide ((w.1 : Int) < (a : Int) + (b : Int))) = meetB a b w := by
  rw [Bool.eq_iff_iff, meetB_iff, Bool.and_eq_true, decide_eq_true_iff, decide_eq_true_iff]
  omega
def sp_fpiece (K : PySem.W.Frag) : Sp := fun vs H Q _ => ∃ (n : Nat) (v u : V) (t1 t2 : String) (l : Addr) (ys : List V) (ts : List (Nat × Nat)), vs = [.int (n : Nat), v, u, .ref l] ∧ 16 ≤ n ∧ n ≤ 240 ∧ TyOf K H v (.type t1) ∧ TyOf K H u (.type t2) ∧ H l = some (.lst ys) ∧ TupsAt H ys (rowsN ts) ∧ ts.length ≤ 1000 ∧ ∀ H', Same H H' → Q (.bl (tr (FpV n v u ts))) H'
instance go_fpieceV {K : PySem.W.Frag} {H : Hp} {Q : VK} {E : XK} {n : Nat} {v u : V} {t1 t2 : String} {l : Addr} {ys : List V} {ts : List (Nat × Nat)} [h : TyA K H v t1] [h2 : TyA K H u t2] [h3 : Hat H l (.lst ys)] [t : TpA H ys (rowsN ts)] : Go (sp_fpiece K [.int (n : Nat), v, u, .ref l] H Q E) (Sd ((16 ≤ n ∧ n ≤ 240) ∧ ts.length ≤ 1000) (∀ H', Same H H' → Q (.bl (tr (FpV n v u ts))) H')) := ⟨fun k => ⟨n, v, u, t1, t2, l, ys, ts, rfl, k.1.1.1, k.1.1.2, h.e, h2.e, h3.e, t.e, k.1.2, k.2⟩⟩
def sp_cut : Sp := fun vs H Q _ => ∃ (q r : Addr) (w0 w1 a b : Nat), vs = [.ref q, .ref r] ∧ H q = some (.tup [.int (w0 : Nat), .int (w1 : Nat)]) ∧ H r = some (.tup [.int (a : Nat), .int (b : Nat)]) ∧ 1 ≤ b ∧ w0 + w1 ≤ 240 ∧ Q (.bl (tr (CutP w0 w1 a b))) H
def sp_piece (K : PySem.W.Frag) : Sp := fun vs H Q _ => ∃ (n : Nat) (v u : V) (t1 t2 : String), vs = [.int (n : Nat), v, u] ∧ 16 ≤ n ∧ n ≤ 240 ∧ TyOf K H v (.type t1) ∧ TyOf K H u (.type t2) ∧ ∀ H', Same H H' → Q (.bl (tr (PcV n v u))) H'
theorem fr_int {v : V} {lo : Int} (h : isFr v lo = true) : ∃ i : Int, v = .int i ∧ lo ≤ i := by
  cases v with
  | int i => exact ⟨i, rfl, by simpa [isFr] using h⟩
  | _ => simp [isFr] at h
theorem pcv_fr {n : Nat} {v u : V} (h : PcV n v u) : isFr v 0 = true ∧ isFr u 1 = true := by
  obtain ⟨a, b, rfl, rfl, k, rfl, _, _⟩ := h
  have := pos2 k
  show decide ((0 : Int) ≤ (a : Int)) = true ∧ decide ((1 : Int) ≤ ((2 ^ k : Nat) : Int)) = true
  exact ⟨decide_eq_true (by omega), decide_eq_true (by omega)⟩
theorem pcv_iff {n a b : Nat} : PcV n (.int (a : Nat)) (.int (b : Nat)) ↔ Pc n a b := ⟨fun ⟨c, d, e1, e2, h⟩ => by
  rw [show a = c by have := V.int.inj e1; omega, show b = d by have := V.int.inj e2; omega]
  exact h, fun h => ⟨a, b, rfl, rfl, h⟩⟩
theorem wh_fine {n : Nat} (h : n ≤ 240) : Ch n 0 (whF n 0 n) := wh_ch n 0 8 (by omega) (by rfl) (by omega)
theorem ch_len {n : Nat} : ∀ {s : Nat} {ws : List (Nat × Nat)}, Ch n s ws → ws.length ≤ n - s := by
  intro s ws h
  induction h with
  | nil _ => simp
  | @cons s e l h1 h2 h3 h4 _ ih => have := pos2 e; simp only [List.length_cons]; omega
theorem any_pc {n a b : Nat} (h : n ≤ 240) : ((whF n 0 n).map fun w => tr (CutP w.1 w.2 a b)).any id = tr (PcV n (.int (a : Nat)) (.int (b : Nat))) := by
  rw [Bool.eq_iff_iff, tr_iff, pcv_iff]
  simp only [List.any_eq_true, List.mem_map, id]
  constructor
  · rintro ⟨_, ⟨w, hw, rfl⟩, h2⟩
    obtain ⟨c1, c2, c3, c4⟩ := tr_iff.mp h2
    exact (pc_iff (wh_fine h) c3).mp ⟨w, hw, c1, c2, c4⟩
  · intro hp
    obtain ⟨k, hk, _⟩ := id hp
    obtain ⟨w, hw, c1, c2, c3⟩ := (pc_iff (wh_fine h) ⟨k, hk⟩).mpr hp
    exact ⟨true, ⟨w, hw, tr_T ⟨c1, c2, ⟨k, hk⟩, c3⟩⟩, rfl⟩
instance go_cut {H : Hp} {Q : VK} {E : XK} {q r : Addr} {w0 w1 a b : Nat} [h : Hat H q (.tup [.int (w0 : Nat), .int (w1 : Nat)])] [h2 : Hat H r (.tup [.int (a : Nat), .int (b : Nat)])] : Go (sp_cut [.ref q, .ref r] H Q E) (Sd (1 ≤ b ∧ w0 + w1 ≤ 240) (Q (.bl (tr (CutP w0 w1 a b))) H)) := ⟨fun k => ⟨q, r, w0, w1, a, b, rfl, h.e, h2.e, k.1.1, k.1.2, k.2⟩⟩
instance go_pieceV {K : PySem.W.Frag} {H : Hp} {Q : VK} {E : XK} {n : Nat} {v u : V} {t1 t2 : String} [h : TyA K H v t1] [h2 : TyA K H u t2] : Go (sp_piece K [.int (n : Nat), v, u] H Q E) (Sd (16 ≤ n ∧ n ≤ 240) (∀ H', Same H H' → Q (.bl (tr (PcV n v u))) H')) := ⟨fun k => ⟨n, v, u, t1, t2, rfl, k.1.1, k.1.2, h.e, h2.e, k.2⟩⟩
def sp_rounded : Sp := fun vs H Q _ => ∃ i : Nat, vs = [.int (i : Nat)] ∧ 1 ≤ i ∧ i ≤ 1000 ∧ ∀ r, IsR i r → Q (.int (r : Nat)) H
def sp_gpow : Sp := fun vs H Q _ => ∃ m : Nat, vs = [.int (m : Nat)] ∧ 1 ≤ m ∧ m ≤ 1000 ∧ Q (.int ((2 ^ Nat.log2 m : Nat) : Int)) H
def sp_wholes : Sp := fun vs H Q _ => ∃ n : Nat, vs = [.int (n : Nat)] ∧ 16 ≤ n ∧ n ≤ 240 ∧ ∀ (p : Addr) (ys : List V) (H' : Hp), New H H' p (.lst ys) → TupsAt H' ys (rowsN (whF n 0 n)) → Q (.ref p) H'
instance go_rounded {H : Hp} {Q : VK} {E : XK} {i : Nat} : Go (sp_rounded [.int (i : Nat)] H Q E) (Sd (1 ≤ i ∧ i ≤ 1000) (∀ r, IsR i r → Q (.int (r : Nat)) H)) := ⟨fun k => ⟨i, rfl, k.1.1, k.1.2, k.2⟩⟩
instance go_gpow {H : Hp} {Q : VK} {E : XK} {m : Nat} : Go (sp_gpow [.int (m : Nat)] H Q E) (Sd (1 ≤ m ∧ m ≤ 1000) (Q (.int ((2 ^ Nat.log2 m : Nat) : Int)) H)) := ⟨fun k => ⟨m, rfl, k.1.1, k.1.2, k.2⟩⟩
instance go_wholes {H : Hp} {Q : VK} {E : XK} {n : Nat} : Go (sp_wholes [.int (n : Nat)] H Q E) (Sd (16 ≤ n ∧ n ≤ 240) (∀ (p : Addr) (ys : List V) (H' : Hp), New H H' p (.lst ys) → TupsAt H' ys (rowsN (whF n 0 n)) → Q (.ref p) H')) := ⟨fun k => ⟨n, rfl, k.1.1, k.1.2, k.2⟩⟩
def sp_share : Sp := fun vs H Q _ => ∃ (p q : Addr) (a b c d : Int), vs = [.ref p, .ref q] ∧ H p = some (.tup [.int a, .int b]) ∧ H q = some (.tup [.int c, .int d]) ∧ Q (.bl (decide (a < c + d) && decide (c < a + b))) H
section
variable {p q : Addr} {a b c d : Int} {H : Hp} {Q : VK} {E : XK}
instance go_share [h : Hat H p (.tup [.int a, .int b])] [h2 : Hat H q (.tup [.int c, .int d])] : Go (sp_share [.ref p, .ref q] H Q E) (Q (.bl (decide (a < c + d) && decide (c < a + b))) H) := ⟨fun k => ⟨p, q, a, b, c, d, rfl, h.e, h2.e, k⟩⟩
end
section
variable {P : Program} {w : World} {K : PySem.W.Frag} {mg : Str → Option Value} {base : Heap} {c : Nat → Addr} {R  : Addr}
theorem D_share (T : Txt K mg c R ) : Def P w K mg base CX0 2 "share_cells" ["one", "other"] sp_share := by
  have D_end_of := D_end_of (P := P) (w := w) (base := base) T
  refine def_of T.d_share sc_share (fun vs H Q E h => ?_) (fun _ _ _ _ _ _ us hl => match us, hl with | [_, _], _ => rfl) (fun f cdv A outer s H vs Q E hr h => ?_)
  · obtain ⟨p, q, a, b, c, d, rfl, _⟩ := h
    rfl
  · obtain ⟨p, q, a, b, c, d, rfl, hp, hq, k⟩ := h
    have nd := sc_share.nd
    refine ⟨_, (pss_one (ps_ret (pe_and (pe_cmpR op_lt (pe_ix ix_tup (pv 0) pe_int (fun _ _ => rfl)) (pe_def D_end_of hr (pa_cons (pv 1) pa_nil)) (nomark _)) (pe_one (pe_cmpR op_lt (pe_ix ix_tup (pv 1) pe_int (fun _ _ => rfl)) (pe_def D_end_of hr (pa_cons (pv 0) pa_nil)) (nomark _)))))), ?_⟩
    clear nd D_end_of
    rw [show start ["one", "other"] [.ref p, .ref q] = [some (.ref p), some (.ref q)] from rfl]
    try dsimp only [cx_K, cx_K2]
    have o_hp := Old.mk (M := []) hp nm0
    have o_hq := Old.mk (M := []) hq nm0
    have F : SH H [] H [] [] := SH.nil
    repeat k_meth
    refine i_dec (fun h => ?_) (fun h => ?_)
    · repeat k_meth
      rw [decide_eq_true h, Bool.true_and] at k
      exact k
    · rw [decide_eq_false h, Bool.false_and] at k
      exact k
theorem D_rounded (T : Txt K mg c R ) : Def P w K mg base CX0 3 "rounded" ["size"] sp_rounded := by
  have D_is_from := D_is_from (P := P) (w := w) (base := base) T
  refine def_of T.d_rounded sc_rounded (fun vs H Q E h => ?_) (fun _ _ _ _ _ _ us hl => match us, hl with | [_], _ => rfl) (fun f cdv A outer s H vs Q E hr h => ?_)
  · obtain ⟨i, rfl, _⟩ := h
    rfl
  · obtain ⟨i, rfl, i1, i2, k⟩ := h
    have nd := sc_rounded.nd
    refine ⟨_, (pss_cons (ps_if (pt_not (pt_val (pe_def D_is_from hr (pa_cons (pv 0) (pa_cons pe_int pa_nil))))) pss_never pss_nil)
      (pss_cons (ps_set (i := 1) nd rfl (Or.inl rfl) pe_int)
      (pss_cons (ps_while PassesOwn.never (pt_cmpR op_lt (pv 1) (pv 0) (nomark _)) (pss_one (ps_set (i := 1) nd rfl (Or.inl rfl) (pe_op op_mul (pv 1) pe_int))))
      (pss_one (ps_ret (pv 1)))))), ?_⟩
    clear nd D_is_from
    rw [show start ["size", "power"] [.int (i : Nat)] = [some (.int (i : Nat)), none] from rfl]
    try dsimp only [cx_K, cx_K2]
    have F : SH H [] H [] [] := SH.nil
    repeat k_meth
    refine while_m (fun m σ' H' => ∃ j : Nat, σ' = [some (.int (i : Nat)), some (.int ((2 ^ j : Nat) : Int))] ∧ m = 2 * i - 2 ^ j ∧ (j = 0 ∨ 2 ^ (j - 1) < i) ∧ H = H') ⟨_, 0, rfl, rfl, .inl rfl, rfl⟩ ?_
    clear F
    rintro m σ' _ ⟨j, rfl, rfl, hj, rfl⟩
    have F : SH H [] H [] [] := SH.nil
    have pj := pos2 j
    have jle : 2 ^ j ≤ 2 * i := by
      rcases hj with rfl | hj
      · omega
      · cases j with
        | zero => omega
        | succ j => have := succ2 j; simp only [Nat.add_sub_cancel] at hj; omega
    have dbl : ((2 ^ j : Nat) : Int) * 2 = ((2 ^ (j + 1) : Nat) : Int) := by have := succ2 j; omega
    have d2 := succ2 j
    generalize hw : (2 ^ j : Nat) = wj at *
    repeat k_meth
    refine i_dec (fun h => ?_) (fun h => ?_)
    · refine ⟨fun σ' H' => ∃ m', m' < _ ∧ _, fun σ' H' h => h, ?_⟩
      repeat k_meth
      rw [dbl]
      exact ⟨2 * i - 2 ^ (j + 1), by omega, j + 1, rfl, rfl, .inr (by simp only [Nat.add_sub_cancel]; omega), rfl⟩
    · repeat k_meth
      exact k _ ⟨j, hw.symm, by omega, by rcases hj with hj | hj; exact .inl hj; exact .inr hj⟩
theorem D_gpow (T : Txt K mg c R ) : Def P w K mg base CX0 1 "greatest_power" ["most"] sp_gpow := by
  refine def_of T.d_gpow sc_gpow (fun vs H Q E h => ?_) (fun _ _ _ _ _ _ us hl => match us, hl with | [_], _ => rfl) (fun f cdv A outer s H vs Q E hr h => ?_)
  · obtain ⟨m, rfl, _⟩ := h
    rfl
  · obtain ⟨m, rfl, m1, m2, k⟩ := h
    have nd := sc_gpow.nd
    refine ⟨_, (pss_cons (ps_set (i := 1) nd rfl (Or.inl rfl) pe_int)
      (pss_cons (ps_while PassesOwn.never (pt_cmpR op_le (pe_op op_mul (pv 1) pe_int) (pv 0) (nomark _)) (pss_one (ps_set (i := 1) nd rfl (Or.inl rfl) (pe_op op_mul (pv 1) pe_int))))
      (pss_one (ps_ret (pv 1))))), ?_⟩
    clear nd 
    rw [show start ["most", "power"] [.int (m : Nat)] = [some (.int (m : Nat)), none] from rfl]
    try dsimp only [cx_K, cx_K2]
    have F : SH H [] H [] [] := SH.nil
    repeat k_meth
    refine while_m (fun l σ' H' => ∃ j : Nat, σ' = [some (.int (m : Nat)), some (.int ((2 ^ j : Nat) : Int))] ∧ l = m - 2 ^ j ∧ 2 ^ j ≤ m ∧ H = H') ⟨_, 0, rfl, rfl, by simpa using m1, rfl⟩ ?_
    clear F
    rintro l σ' _ ⟨j, rfl, rfl, hj, rfl⟩
    have F : SH H [] H [] [] := SH.nil
    have pj := pos2 j
    have dbl : ((2 ^ j : Nat) : Int) * 2 = ((2 ^ (j + 1) : Nat) : Int) := by have := succ2 j; omega
    have d2 := succ2 j
    have fin : ¬ (2 ^ (j + 1) ≤ m) → 2 ^ j = 2 ^ Nat.log2 m := fun h => lg_uniq hj (by omega)
    generalize hw : (2 ^ j : Nat) = wj at *
    repeat k_meth
    refine i_dec (fun h => ?_) (fun h => ?_)
    · refine ⟨fun σ' H' => ∃ m', m' < _ ∧ _, fun σ' H' h => h, ?_⟩
      repeat k_meth
      rw [dbl]
      exact ⟨m - 2 ^ (j + 1), by omega, j + 1, rfl, rfl, by omega, rfl⟩
    · repeat k_meth
      rw [fin (by omega)]
      exact k
theorem D_wholes (T : Txt K mg c R ) : Def P w K mg base CX0 4 "wholes_of" ["many"] sp_wholes := by
  have D_is_many := D_is_many (P := P) (w := w) (base := base) T
  have D_end_of := D_end_of (P := P) (w := w) (base := base) T
  have D_gpow := D_gpow (P := P) (w := w) (base := base) T
  refine def_of T.d_wholes sc_wholes (fun vs H Q E h => ?_) (fun _ _ _ _ _ _ us hl => match us, hl with | [_], _ => rfl) (fun f cdv A outer s H vs Q E hr h => ?_)
  · obtain ⟨n, rfl, _⟩ := h
    rfl
  · obtain ⟨n, rfl, n1, n2, k⟩ := h
    have nd := sc_wholes.nd
    refine ⟨_, (pss_cons (ps_if (pt_not (pt_val (pe_def D_is_many hr (pa_cons (pv 0) pa_nil)))) pss_never pss_nil)
      (pss_cons (ps_set (i := 1) nd rfl (Or.inl rfl) (pe_lstA pa_nil))
      (pss_cons (ps_set (i := 2) nd rfl (Or.inl rfl) pe_int)
      (pss_cons (ps_while PassesOwn.never (pt_cmpR op_lt (pv 2) (pv 0) (nomark _)) (pss_cons (ps_set (i := 3) nd rfl (Or.inl rfl) (pe_tupA (pa_cons (pv 2) (pa_cons (pe_def D_gpow hr (pa_cons (pe_op op_sub (pv 0) (pv 2)) pa_nil)) pa_nil))))
        (pss_cons (ps_expr (pe_appendA (pv 1) (pv 3)))
        (pss_one (ps_set (i := 2) nd rfl (Or.inl rfl) (pe_def D_end_of hr (pa_cons (pv 3) pa_nil)))))))
      (pss_one (ps_ret (pv 1))))))), ?_⟩
    clear nd D_is_many D_end_of D_gpow
    rw [show start ["many", "wholes", "start", "whole"] [.int (n : Nat)] = [some (.int (n : Nat)), none, none, none] from rfl]
    try dsimp only [cx_K, cx_K2]
    have F : SH H [] H [] [] := SH.nil
    repeat k_meth
    rw [decide_eq_true (show (16 : Int) ≤ (n : Int) by omega), decide_eq_true (show (n : Int) ≤ 240 by omega), show (true && true) = true from rfl]
    repeat k_meth
    obtain ⟨pw, e_⟩ : ∃ q, q = p_ := ⟨_, rfl⟩
    subst e_
    refine while_m (fun l σ' H' => ∃ (st : Nat) (f : Nat) (ws : List (Nat × Nat)) (ys : List V) (o3 : Option V), σ' = [some (.int (n : Nat)), some (.ref pw), some (.int (st : Nat)), o3] ∧ l = n - st ∧ n - st ≤ f ∧ st + ws.length ≤ 2 * st ∧ st ≤ n ∧ whF n 0 n = ws ++ whF f st n ∧ ys.length = ws.length ∧ SH H [] H' [(pw, .lst ys)] [.tps ys (rowsN ws)]) ⟨_, 0, n, [], [], none, rfl, rfl, by omega, by simp, by omega, rfl, rfl, (F.addP (ys := []) (rs := rowsN []) TupsAt.nil).sub SbC.s (by simp)⟩ ?_
    clear F
    rintro l σ' H' ⟨st, f, ws, ys, _, rfl, rfl, hf, hl, hn, ew, yl, F⟩
    repeat k_meth
    refine i_dec (fun h => ?_) (fun h => ?_)
    · have hlt : st < n := by omega
      obtain ⟨f, rfl⟩ : ∃ g, f = g + 1 := ⟨f - 1, by omega⟩
      rw [whF, if_pos hlt] at ew
      have a1 : 2 ^ Nat.log2 (n - st) ≤ n - st := Nat.log2_self_le (by omega)
      have a2 := pos2 (Nat.log2 (n - st))
      refine ⟨fun σ' H' => ∃ m', m' < _ ∧ _, fun σ' H' h => h, ?_⟩
      repeat k_meth
      rw [show (n : Int) - (st : Int) = ((n - st : Nat) : Int) by omega]
      generalize hw : 2 ^ Nat.log2 (n - st) = wz at *
      repeat k_meth
      rw [hw] at F ⊢
      rw [show (st : Int) + (wz : Int) = ((st + wz : Nat) : Int) by omega]
      have tt : TupsAt H_ (ys ++ [.ref p_]) (rowsN (ws ++ [(st, wz)])) := by
        rw [rowsN_snoc]
        exact TupsAt.snoc TpA.e hatC
      exact ⟨n - (st + wz), by omega, st + wz, f, ws ++ [(st, wz)], ys ++ [.ref p_], _, rfl, rfl, by omega, by rw [List.length_append]; simp only [List.length_cons, List.length_nil]; omega, by omega, by rw [ew, List.append_assoc]; rfl, by rw [List.length_append, List.length_append, yl]; rfl, (F.addP tt).sub SbC.s (by simp)⟩
    · have e0 : whF f st n = [] := by
        cases f with
        | zero => rfl
        | succ f => rw [whF, if_neg (by omega)]
      rw [e0, List.append_nil] at ew
      repeat k_meth
      rw [ew] at k
      exact k _ ys _ SH.nwC TpA.e
theorem D_cut (T : Txt K mg c R ) : Def P w K mg base CX0 4 "is_cut_from" ["whole", "piece"] sp_cut := by
  have D_end_of := D_end_of (P := P) (w := w) (base := base) T
  have D_rounded := D_rounded (P := P) (w := w) (base := base) T
  refine def_of T.d_cut sc_cut (fun vs H Q E h => ?_) (fun _ _ _ _ _ _ us hl => match us, hl with | [_, _], _ => rfl) (fun f cdv A outer s H vs Q E hr h => ?_)
  · obtain ⟨q, r, w0, w1, a, b, rfl, _⟩ := h
    rfl
  · obtain ⟨q, r, w0, w1, a, b, rfl, hq, hr_, b1, w2, k⟩ := h
    have nd := sc_cut.nd
    refine ⟨_, (pss_cons (ps_if (PW.pt (pw_or (pt_cmpR op_lt (pe_ix ix_tup (pv 1) pe_int (fun _ _ => rfl)) (pe_ix ix_tup (pv 0) pe_int (fun _ _ => rfl)) (nomark _)) (pw_or1 (pt_cmpR op_gt (pe_def D_end_of hr (pa_cons (pv 1) pa_nil)) (pe_def D_end_of hr (pa_cons (pv 0) pa_nil)) (nomark _))))) (pss_one (ps_ret pe_bl)) pss_nil)
      (pss_one (ps_ret (pe_and (pe_cmpR op_eq (pe_def D_rounded hr (pa_cons (pe_ix ix_tup (pv 1) pe_int (fun _ _ => rfl)) pa_nil)) (pe_ix ix_tup (pv 1) pe_int (fun _ _ => rfl)) (nomark _)) (pe_one (pe_cmpR op_eq (pe_op op_mod (pe_op op_sub (pe_ix ix_tup (pv 1) pe_int (fun _ _ => rfl)) (pe_ix ix_tup (pv 0) pe_int (fun _ _ => rfl))) (pe_ix ix_tup (pv 1) pe_int (fun _ _ => rfl))) pe_int (nomark _))))))), ?_⟩
    clear nd D_end_of D_rounded
    rw [show start ["whole", "piece"] [.ref q, .ref r] = [some (.ref q), some (.ref r)] from rfl]
    try dsimp only [cx_K, cx_K2]
    have o_hq := Old.mk (M := []) hq nm0
    have o_hr_ := Old.mk (M := []) hr_ nm0
    have F : SH H [] H [] [] := SH.nil
    repeat k_meth
    refine i_dec (fun h => ?_) (fun h => ?_)
    · repeat k_meth
      rw [tr_F (fun z => by have := z.1; omega)] at k
      exact k
    repeat k_meth
    refine i_dec (fun h2 => ?_) (fun h2 => ?_)
    · repeat k_meth
      rw [tr_F (fun z => by have := z.2.1; omega)] at k
      exact k
    repeat k_meth
    intro r2 hr2
    have rs := isR_self b1 hr2
    repeat k_meth
    refine i_dec (fun h3 => ?_) (fun h3 => ?_)
    · have e1 : ∃ k, b = 2 ^ k := rs.mp (by omega)
      repeat k_meth
      have e2 : ((a : Int) - (w0 : Int)) % (b : Int) = (((a - w0) % b : Nat) : Int) := by rw [show (a : Int) - (w0 : Int) = ((a - w0 : Nat) : Int) by omega]; rfl
      rw [e2]
      rw [show tr (CutP w0 w1 a b) = decide ((((a - w0) % b : Nat) : Int) = 0) by
        rw [Bool.eq_iff_iff, tr_iff, decide_eq_true_iff]
        exact ⟨fun z => by have := z.2.2.2; omega, fun z => ⟨by omega, by omega, e1, by omega⟩⟩] at k
      exact k
    · repeat k_meth
      rw [tr_F (fun z => h3 (by have := rs.mpr z.2.2.1; omega))] at k
      exact k
theorem D_piece (T : Txt K mg c R ) : Def P w K mg base CX0 5 "is_piece" ["many", "start", "size"] (sp_piece K) := by
  have D_is_many := D_is_many (P := P) (w := w) (base := base) T
  have D_is_from := D_is_from (P := P) (w := w) (base := base) T
  have D_cut := D_cut (P := P) (w := w) (base := base) T
  have D_wholes := D_wholes (P := P) (w := w) (base := base) T
  refine def_of T.d_piece sc_piece (fun vs H Q E h => ?_) (fun _ _ _ _ _ _ us hl => match us, hl with | [_, _, _], _ => rfl) (fun f cdv A outer s H vs Q E hr h => ?_)
  · obtain ⟨n, v, u, t1, t2, rfl, _⟩ := h
    rfl
  · obtain ⟨n, v, u, t1, t2, rfl, n1, n2, ty, uy, k⟩ := h
    have nd := sc_piece.nd
    refine ⟨_, (pss_cons (ps_if (PW.pt (pw_or (pt_not (pt_val (pe_def D_is_many hr (pa_cons (pv 0) pa_nil)))) (pw_or (pt_not (pt_val (pe_def D_is_from hr (pa_cons (pv 1) (pa_cons pe_int pa_nil))))) (pw_or1 (pt_not (pt_val (pe_def D_is_from hr (pa_cons (pv 2) (pa_cons pe_int pa_nil))))))))) (pss_one (ps_ret pe_bl)) pss_nil)
      (pss_one (ps_ret (pe_callB (call_any rfl) rfl T.n_any boot_any (pa_cons (pe_comp (N := ["whole", "start", "size"]) (nt := 1) (fr := [1, 2]) (pi_list (pe_def D_wholes hr (pa_cons (pv 0) pa_nil))) (fun _ _ _ _ => (pg_name (i := 0) (show (["whole", "start", "size"] : List Str).Nodup from by decide +kernel) rfl (Or.inl rfl))) (fun _ _ _ _ => pif_nil) (fun _ _ _ _ => (pe_def D_cut hr (pa_cons (pv 0) (pa_cons (pe_tupA (pa_cons (pv 1) (pa_cons (pv 2) pa_nil))) pa_nil))))) pa_nil))))), ?_⟩
    clear nd D_is_many D_is_from D_cut D_wholes
    rw [show start ["many", "start", "size"] [.int (n : Nat), v, u] = [some (.int (n : Nat)), some (v), some (u)] from rfl]
    try dsimp only [cx_K, cx_K2]
    have F : SH H [] H [] [] := SH.nil
    have o_v : OldT K H [] v t1 := ⟨ty, fun _ _ z => by cases z⟩
    have o_u : OldT K H [] u t2 := ⟨uy, fun _ _ z => by cases z⟩
    repeat k_meth
    rw [decide_eq_true (show (16 : Int) ≤ (n : Int) by omega), decide_eq_true (show (n : Int) ≤ 240 by omega), show (true && true) = true from rfl]
    repeat k_meth
    by_cases e1 : isFr v 0 = true
    · rw [e1]
      repeat k_meth
      by_cases e2 : isFr u 1 = true
      · rw [e2]
        obtain ⟨i, rfl, hi⟩ := fr_int e1
        obtain ⟨j, rfl, hj⟩ := fr_int e2
        obtain ⟨a, rfl⟩ : ∃ a : Nat, i = (a : Int) := ⟨i.toNat, by omega⟩
        obtain ⟨b, rfl⟩ : ∃ b : Nat, j = (b : Int) := ⟨j.toNat, by omega⟩
        repeat k_meth
        refine comp_prs (ws := whF n 0 n) (G := fun w => .bl (tr (CutP w.1 w.2 a b))) (fvs := [some (.int (a : Nat)), some (.int (b : Nat))]) SqA.e TpA.e (by have := ch_len (wh_fine n2); omega) rfl (fun w q H' R hw s hq kk => ?_) fun z H2 nw => ?_
        · obtain ⟨e, he, _, hle, _⟩ := ch_at (wh_fine n2) w hw
          have lew : w.1 + w.2 ≤ 240 := by rw [he]; omega
          clear F
          have F : SH H' [] H' [] [] := SH.nil
          have o_q := Old.mk (M := []) hq nm0
          repeat k_meth
          exact kk _ F.sm
        · rw [show (whF n 0 n).map (fun w => V.bl (tr (CutP w.1 w.2 a b))) = ((whF n 0 n).map fun w => tr (CutP w.1 w.2 a b)).map V.bl by rw [List.map_map]; rfl] at nw
          replace F := F.newL nw
          repeat k_meth
          refine ⟨z, _, rfl, SqA.e, ?_⟩
          rw [any_pc n2]
          exact k _ F.sm
      · have e2 : isFr u 1 = false := by simpa using e2
        rw [e2]
        rw [tr_F (fun z => by rw [(pcv_fr z).2] at e2; cases e2)] at k
        repeat k_meth
        exact k _ F.sm
    · have e1 : isFr v 0 = false := by simpa using e1
      rw [e1]
      rw [tr_F (fun z => by rw [(pcv_fr z).1] at e1; cases e1)] at k
      repeat k_meth
      exact k _ F.sm
theorem D_fpiece (T : Txt K mg c R ) : Def P w K mg base CX0 6 "is_free_piece" ["many", "start", "size", "taken"] (sp_fpiece K) := by
  have D_piece := D_piece (P := P) (w := w) (base := base) T
  have D_share := D_share (P := P) (w := w) (base := base) T
  refine def_of T.d_fpiece sc_fpiece (fun vs H Q E h => ?_) (fun _ _ _ _ _ _ us hl => match us, hl with | [_, _, _, _], _ => rfl) (fun f cdv A outer s H vs Q E hr h => ?_)
  · obtain ⟨n, v, u, t1, t2, l, ys, ts, rfl, _⟩ := h
    rfl
  · obtain ⟨n, v, u, t1, t2, l, ys, ts, rfl, n1, n2, ty, uy, hl, tp, fw, k⟩ := h
    have nd := sc_fpiece.nd
    refine ⟨_, (pss_cons (ps_if (pt_not (pt_val (pe_def D_piece hr (pa_cons (pv 0) (pa_cons (pv 1) (pa_cons (pv 2) pa_nil)))))) (pss_one (ps_ret pe_bl)) pss_nil)
      (pss_one (ps_ret (pe_not (pe_callB (call_any rfl) rfl T.n_any boot_any (pa_cons (pe_comp (N := ["piece", "start", "size"]) (nt := 1) (fr := [1, 2]) (pi_list (pv 3)) (fun _ _ _ _ => (pg_name (i := 0) (show (["piece", "start", "size"] : List Str).Nodup from by decide +kernel) rfl (Or.inl rfl))) (fun _ _ _ _ => pif_nil) (fun _ _ _ _ => (pe_def D_share hr (pa_cons (pe_tupA (pa_cons (pv 1) (pa_cons (pv 2) pa_nil))) (pa_cons (pv 0) pa_nil))))) pa_nil)))))), ?_⟩
    clear nd D_piece D_share
    rw [show start ["many", "start", "size", "taken"] [.int (n : Nat), v, u, .ref l] = [some (.int (n : Nat)), some (v), some (u), some (.ref l)] from rfl]
    try dsimp only [cx_K, cx_K2]
    have o_hl := Old.mk (M := []) hl nm0
    have o_tp := OldP.mk tp
    have F : SH H [] H [] [] := SH.nil
    have o_v : OldT K H [] v t1 := ⟨ty, fun _ _ z => by cases z⟩
    have o_u : OldT K H [] u t2 := ⟨uy, fun _ _ z => by cases z⟩
    have yl := rowsN_len tp
    repeat k_meth
    by_cases e : PcV n v u
    · rw [tr_T e]
      obtain ⟨a, b, rfl, rfl, pc⟩ := id e
      repeat k_meth
      refine comp_prs (ws := ts) (G := fun w => .bl (meetB a b w)) (fvs := [some (.int (a : Nat)), some (.int (b : Nat))]) SqA.e TpA.e (by omega) rfl (fun w q H' R hw s hq kk => ?_) fun z H2 nw => ?_
      · clear F
        have F : SH H' [] H' [] [] := SH.nil
        have o_q := Old.mk (M := []) hq nm0
        repeat k_meth
        rw [meet_cast]
        exact kk _ F.sm
      · rw [show ts.map (fun w => V.bl (meetB a b w)) = (ts.map fun w => meetB a b w).map V.bl by rw [List.map_map]; rfl] at nw
        replace F := F.newL nw
        repeat k_meth
        refine ⟨z, _, rfl, SqA.e, ?_⟩
        repeat k_meth
        rw [show tr (FpV n (.int (a : Nat)) (.int (b : Nat)) ts) = !((ts.map fun w => meetB a b w).any id) by
          rw [Bool.eq_iff_iff, tr_iff, fpv_iff]
          simp only [Bool.not_eq_true', List.any_eq_false, List.mem_map, id]
          exact ⟨fun h x ⟨w, hw, e⟩ => by rw [← e, h.2 w hw]; decide, fun h => ⟨pc, fun w hw => by have := h _ ⟨w, hw, rfl⟩; simpa using this⟩⟩] at k
        exact k _ F.sm
    · rw [tr_F e]
      rw [tr_F (fun ⟨a, b, e1, e2, h, _⟩ => e ⟨a, b, e1, e2, h⟩)] at k
      repeat k_meth
      exact k _ F.sm
end
open PySem.Spec PySem.SeqAt M44
theorem rowN_inj {a b c d : Nat} (h : ([.int (a : Nat), .int (b : Nat)] : List V) = [.int (c : Nat), .int (d : Nat)]) : (a, b) = (c, d) := by
  simp only [List.cons.injEq, V.int.injEq, and_true] at h
  exact Prod.ext (show a = c by omega) (show b = d by omega)
def rInP (K : PySem.W.Frag) : R2 := fun x y H Q => ∃ (q l : Addr) (ys : List V) (a b : Nat) (ts : List (Nat × Nat)), x = .ref q ∧ y = .ref l ∧ H q = some (.tup [.int (a : Nat), .int (b : Nat)]) ∧ SqL K H l ys ∧ TupsAt H ys (rowsN ts) ∧ Q (.bl (decide ((a, b) ∈ ts))) H
theorem op_inP {X : Cx} {K : PySem.W.Frag} {k : Nat} (hK : X.K = K) (hr : Room k X.A) : OpR X (compareOp .In) (rInP K) := by
  subst hK
  intro pins s σ H x y v u Q I rx ry h
  obtain ⟨q, l, ys, a, b, ts, rfl, rfl, hq, hl, tp, h⟩ := h
  cases rx
  cases ry
  obtain ⟨its, rv, pl, hz⟩ := I.list hl
  have hi : ∀ i z, its[i]? = some z → ∃ (w : Nat × Nat) (q' : Addr), ts[i]? = some w ∧ z = Value.ref q' ∧ H q' = some (.tup [.int (w.1 : Nat), .int (w.2 : Nat)]) := fun i z e => by
    have hlen := rv.length
    have hi : i < ys.length := by rw [hlen]; exact (List.getElem?_eq_some_iff.mp e).1
    obtain ⟨w, q', e1, e2, e3⟩ := rowsN_at tp (i := i) (v := ys[i]) (List.getElem?_eq_getElem hi)
    obtain ⟨u, hu, ru⟩ := rv.get (i := i) (x := ys[i]) (by simp)
    rw [e] at hu
    cases hu
    rw [e2] at ru
    exact ⟨w, q', e1, ru, e3⟩
  let e : Value → Bool := fun z => tr (∃ q', z = Value.ref q' ∧ H q' = some (.tup [.int (a : Nat), .int (b : Nat)]))
  have he : ∀ (q' : Addr) (w : Nat × Nat), H q' = some (.tup [.int (w.1 : Nat), .int (w.2 : Nat)]) → e (Value.ref q') = decide (w = (a, b)) := fun q' w hw => by
    show tr _ = _
    rw [Bool.eq_iff_iff, tr_iff, decide_eq_true_iff]
    constructor
    · rintro ⟨q2, e1, e2⟩
      cases e1
      rw [hw] at e2
      exact rowN_inj (HO.tup.inj (Option.some.inj e2))
    · rintro rfl
      exact ⟨q', rfl, hw⟩
  have rp : ∀ (q' : Addr) (c d : Nat), H q' = some (.tup [.int (c : Nat), .int (d : Nat)]) → Rep X.K H (.tup [.int (c : Nat), .int (d : Nat)]) (.ref q') := fun q' c d hw => by
    simp only [Rep]
    exact ⟨q', _, rfl, SqT.of hw, by simp [Reps, Rep]⟩
  refine in_listAt e pl.isList (fun z hz => ?_) ⟨.bl _, H, I, rfl, ?_⟩
  · obtain ⟨i, hi2, ez⟩ := List.getElem_of_mem (show z ∈ its by simpa using hz)
    obtain ⟨w, q', e1, rfl, e3⟩ := hi i z (by rw [← ez]; simp)
    have hE := (eq3 I 50 X.A.in1 _ _ _ _ (.ref q') (.ref q) (by have := hr.un; show X.A.units + 1 + 50 < _; omega) (by simp [depD, depDs]) (rp q' _ _ e3) (rp q _ _ hq) rfl rfl)
    rw [he q' w e3]
    have e4 : eqDt (.tup [.int (w.1 : Nat), .int (w.2 : Nat)]) (.tup [.int (a : Nat), .int (b : Nat)]) = decide (w = (a, b)) := by
      simp only [eqDt, eqDts, Bool.and_true]
      rw [Bool.eq_iff_iff, decide_eq_true_iff, Bool.and_eq_true]
      constructor
      · rintro ⟨h1, h2⟩
        have h1 : (w.1 : Int) = (a : Int) := by simpa using h1
        have h2 : (w.2 : Int) = (b : Int) := by simpa using h2
        exact Prod.ext (show w.1 = a by omega) (show w.2 = b by omega)
      · rintro rfl
        simp
    rw [← e4]
    exact hE.eq
  · have e5 : its.toArray.any e = decide ((a, b) ∈ ts) := by
      rw [Bool.eq_iff_iff, decide_eq_true_iff]
      simp only [List.any_toArray, List.any_eq_true]
      constructor
      · rintro ⟨z, hz, ez⟩
        obtain ⟨i, hi2, ez2⟩ := List.getElem_of_mem hz
        obtain ⟨w, q', e1, rfl, e3⟩ := hi i z (by rw [← ez2]; simp)
        rw [he q' w e3, decide_eq_true_iff] at ez
        rw [← ez]
        exact List.mem_of_getElem? e1
      · intro hm
        obtain ⟨i, hi2, ew⟩ := List.getElem_of_mem hm
        have hl2 : i < its.length := by rw [← rv.length, rowsN_len tp]; exact hi2
        obtain ⟨w, q', e1, e2, e3⟩ := hi i its[i] (by simp)
        refine ⟨its[i], List.getElem_mem hl2, ?_⟩
        rw [e2, he q' w e3, decide_eq_true_iff]
        rw [List.getElem?_eq_getElem hi2, ew] at e1
        exact (Option.some.inj e1).symm
    rw [e5]
    exact h
theorem filtN_tups {H H' : Hp} (s : Same H H') {p : V → Bool} {pr : Nat × Nat → Bool} (hp : ∀ (q : Addr) (w : Nat × Nat), H q = some (.tup [.int (w.1 : Nat), .int (w.2 : Nat)]) → p (.ref q) = pr w) : ∀ {xs : List V} {ws : List (Nat × Nat)}, TupsAt H xs (rowsN ws) → TupsAt H' (xs.filter p) (rowsN (ws.filter pr))
  | [], [], h => ⟨rfl, fun j r e => by simp [rowsN] at e⟩
  | [], w :: ws, h => absurd h.1 (by simp [rowsN])
  | x :: xs, [], h => absurd h.1 (by simp [rowsN])
  | x :: xs, w :: ws, h => by
    obtain ⟨q, e1, e2⟩ := h.2 0 [.int (w.1 : Nat), .int (w.2 : Nat)] rfl
    have ht : TupsAt H xs (rowsN ws) := ⟨by simpa [rowsN] using h.1, fun j r e => h.2 (j + 1) r (by simpa [rowsN] using e)⟩
    cases e1
    have ih := filtN_tups s hp ht
    rw [List.filter_cons, List.filter_cons, hp q w e2]
    cases pr w with
    | false => exact ih
    | true =>
      refine ⟨by have := ih.1; simpa [rowsN] using this, fun j r e => ?_⟩
      cases j with
      | zero =>
        cases e
        exact ⟨q, rfl, s _ _ e2⟩
      | succ j => exact ih.2 j r (by simpa [rowsN] using e)
theorem comp_fprs {K : PySem.W.Frag} {l : Addr} {xs : List V} {ws : List (Nat × Nat)} {pr : Nat × Nat → Bool} {c : TT} {σ fvs : L2.St} {fr : List Nat} {H : Hp} {Q : VK} (hq : SqL K H l xs) (tp : TupsAt H xs (rowsN ws)) (hz : xs.length ≤ 1000000) (hf : (fr.map fun i => (σ[i]?).getD none) = fvs)
    (turn : ∀ (q : Addr) (w : Nat × Nat) (H' : Hp) (R : Bool → Hp → Prop), w ∈ ws → Same H H' → H' q = some (.tup [.int (w.1 : Nat), .int (w.2 : Nat)]) → (∀ H2, Same H' H2 → R (pr w) H2) → c (some (.ref q) :: fvs) H' R)
    (k : ∀ l' ys H', New H H' l' (.lst ys) → TupsAt H' ys (rowsN (ws.filter pr)) → Q (.ref l') H') : CompAll (Itl K l) 1 fr (gName 0) c (tVar 0) σ H Q := by
  let p : V → Bool := fun v => match v with | .ref q => tr (∃ w : Nat × Nat, H q = some (.tup [.int (w.1 : Nat), .int (w.2 : Nat)]) ∧ pr w = true) | _ => false
  have hp : ∀ (q : Addr) (w : Nat × Nat), H q = some (.tup [.int (w.1 : Nat), .int (w.2 : Nat)]) → p (.ref q) = pr w := fun q w e => by
    show tr _ = pr w
    cases h : pr w with
    | true => exact tr_T ⟨w, e, h⟩
    | false =>
      refine tr_F fun ⟨s, e2, h2⟩ => ?_
      rw [e] at e2
      have := rowN_inj (HO.tup.inj (Option.some.inj e2))
      rw [show s = w from this.symm, h] at h2
      cases h2
  refine comp_filter (p := p) hq hz hf (fun v H' R hv s kk => ?_) fun l' H' n => k l' _ H' n (filtN_tups n.s hp tp)
  obtain ⟨i, hi, e⟩ := List.getElem_of_mem hv
  obtain ⟨w, q, e1, rfl, e2⟩ := rowsN_at tp (i := i) (v := v) (by rw [← e]; simp)
  exact turn q w H' R (List.mem_of_getElem? e1) s (s _ _ e2) fun H2 s2 => by rw [← hp q w e2]; exact kk H2 s2
theorem tups_app {H : Hp} {xs ys : List V} {a b : List (Nat × Nat)} (h : TupsAt H xs (rowsN a)) (h2 : TupsAt H ys (rowsN b)) : TupsAt H (xs ++ ys) (rowsN (a ++ b)) := by
  have e : rowsN (a ++ b) = rowsN a ++ rowsN b := by unfold rowsN; rw [List.map_append]
  rw [e]
  refine ⟨by rw [List.length_append, List.length_append, h.1, h2.1], fun j r er => ?_⟩
  rcases Nat.lt_or_ge j (rowsN a).length with hj | hj
  · rw [List.getElem?_append_left hj] at er
    obtain ⟨q, e1, e2⟩ := h.2 j r er
    exact ⟨q, by rw [List.getElem?_append_left (by rw [h.1]; exact hj)]; exact e1, e2⟩
  · rw [List.getElem?_append_right hj] at er
    obtain ⟨q, e1, e2⟩ := h2.2 _ r er
    exact ⟨q, by rw [List.getElem?_append_right (by rw [h.1]; exact hj), h.1]; exact e1, e2⟩
theorem fwF_len : ∀ (k s : Nat) (ts : List (Nat × Nat)), (fwF k s ts).length ≤ 2 ^ k
  | 0, s, ts => by unfold fwF; split <;> simp
  | k + 1, s, ts => by
    have e := succ2 k
    have p := pos2 k
    unfold fwF
    split
    · simp only [List.length_cons, List.length_nil]; omega
    · split
      · simp
      · rw [List.length_append]
        have a := fwF_len k s (ts.filter (meetB s (2 ^ (k + 1))))
        have b := fwF_len k (s + 2 ^ k) (ts.filter (meetB s (2 ^ (k + 1))))
        omega
theorem ok_zero {tk : Nat → Bool} {s : Nat} {ts : List (Nat × Nat)} (ok : Ok tk s 0 ts) (he : ts.filter (meetB s (2 ^ 0)) ≠ []) : (s, 2 ^ 0) ∈ ts.filter (meetB s (2 ^ 0)) := by
  obtain ⟨t, ht⟩ := List.exists_mem_of_ne_nil _ he
  obtain ⟨h1, h2⟩ := List.mem_filter.mp ht
  obtain ⟨h3, h4⟩ := meetB_iff.mp h2
  obtain ⟨h5, h6, j, h7, h8⟩ := ok.nest t h1 h3 h4
  have hj := pos2 j
  have : t = (s, 2 ^ 0) := by
    apply Prod.ext
    · show t.1 = s
      simp only [Nat.pow_zero] at h4 h6
      omega
    · show t.2 = 2 ^ 0
      simp only [Nat.pow_zero] at h4 h6 ⊢
      omega
  rw [this] at ht
  exact ht
theorem fwF_two {k s : Nat} {ts : List (Nat × Nat)} (e1 : ts.filter (meetB s (2 ^ (k + 1))) ≠ []) (hm : (s, 2 ^ (k + 1)) ∉ ts.filter (meetB s (2 ^ (k + 1)))) : fwF (k + 1) s ts = fwF k s (ts.filter (meetB s (2 ^ (k + 1)))) ++ fwF k (s + 2 ^ k) (ts.filter (meetB s (2 ^ (k + 1)))) := by rw [fwF, if_neg e1, if_neg hm]
def sp_no : Sp := fun _ _ _ _ => False
def sp_fw (k : Nat) : Sp := fun vs H Q _ => ∃ (q l : Addr) (ys : List V) (ts : List (Nat × Nat)) (s : Nat), vs = [.ref q, .ref l] ∧ H q = some (.tup [.int (s : Nat), .int ((2 ^ k : Nat) : Int)]) ∧ H l = some (.lst ys) ∧ TupsAt H ys (rowsN ts) ∧ ts.length ≤ 1000 ∧ s + 2 ^ k ≤ 1000 ∧ (∃ tk, Ok tk s k ts) ∧ ∀ p zs H', New H H' p (.lst zs) → TupsAt H' zs (rowsN (fwF k s ts)) → Q (.ref p) H'
section
variable {P : Program} {w : World} {K : PySem.W.Frag} {mg : Str → Option Value} {base : Heap} {c : Nat → Addr} {R  : Addr}
theorem D_fwithinZ (T : Txt K mg c R ) : Def P w K mg base CX0 5 "free_within" ["piece", "taken"] sp_no := by
  refine def_of T.d_fwithin sc_fwithin (fun vs H Q E h => h.elim) (fun _ _ _ _ _ _ us hl => match us, hl with | [_, _], _ => rfl) (fun f cdv A outer s H vs Q E hr h => h.elim)
theorem D_fwithin0 (T : Txt K mg c R ) : Def P w K mg base CX0 6 "free_within" ["piece", "taken"] (sp_fw 0) := by
  have D_share := D_share (P := P) (w := w) (base := base) T
  refine def_of T.d_fwithin sc_fwithin (fun vs H Q E h => ?_) (fun _ _ _ _ _ _ us hl => match us, hl with | [_, _], _ => rfl) (fun f cdv A outer s H vs Q E hr h => ?_)
  · obtain ⟨q, l, ys, ts, s, rfl, _⟩ := h
    rfl
  · obtain ⟨q, l, ys, ts, s, rfl, hq, hl, tp, fw, s1, ok, k⟩ := h
    have nd := sc_fwithin.nd
    refine ⟨_, (pss_cons (ps_setc (i := 2) nd rfl (Or.inl rfl) (N := ["one", "piece"]) (nt := 1) (fr := [0]) (pi_list (pv 1)) (fun _ _ _ _ => (pg_name (i := 0) (show (["one", "piece"] : List Str).Nodup from by decide +kernel) rfl (Or.inl rfl))) (fun _ _ _ _ => pif_one (pt_val (pe_def D_share hr (pa_cons (pv 1) (pa_cons (pv 0) pa_nil))))) (fun _ _ _ _ => (pv 0)))
      (pss_cons (ps_if (pt_cmpR (op_eqE hr) (pv 2) (pe_lstA pa_nil) (nomark _)) (pss_one (ps_ret (pe_lstA (pa_cons (pv 0) pa_nil)))) pss_nil)
      (pss_cons (ps_if (pt_cmpR (op_inP (K := K) rfl hr) (pv 0) (pv 2) (by with_unfolding_all rfl)) (pss_one (ps_ret (pe_lstA pa_nil))) pss_nil)
      (pss_cons (ps_set (i := 3) nd rfl (Or.inl rfl) (pe_op op_fdiv (pe_ix ix_tup (pv 0) pe_int (fun _ _ => rfl)) pe_int))
      (pss_one (ps_ret (pe_op op_catA (pe_def (D_fwithinZ (P := P) (w := w) (base := base) T) hr (pa_cons (pe_tupA (pa_cons (pe_ix ix_tup (pv 0) pe_int (fun _ _ => rfl)) (pa_cons (pv 3) pa_nil))) (pa_cons (pv 2) pa_nil))) (pe_def (D_fwithinZ (P := P) (w := w) (base := base) T) hr (pa_cons (pe_tupA (pa_cons (pe_op op_add (pe_ix ix_tup (pv 0) pe_int (fun _ _ => rfl)) (pv 3)) (pa_cons (pv 3) pa_nil))) (pa_cons (pv 2) pa_nil)))))))))), ?_⟩
    clear nd D_share
    rw [show start ["piece", "taken", "sharing", "half"] [.ref q, .ref l] = [some (.ref q), some (.ref l), none, none] from rfl]
    try dsimp only [cx_K, cx_K2]
    have o_hq := Old.mk (M := []) hq nm0
    have o_hl := Old.mk (M := []) hl nm0
    have o_tp := OldP.mk tp
    have F : SH H [] H [] [] := SH.nil
    have yl := rowsN_len tp
    repeat k_meth
    refine comp_fprs (ws := ts) (pr := meetB s (2 ^ 0)) (fvs := [some (.ref q)]) SqA.e TpA.e (by omega) rfl (fun q2 w H' R hw s2 hq2 kk => ?_) fun pl ys2 H2 nw tp2 => ?_
    · have hq3 : H' q = some (.tup [.int (s : Nat), .int ((2 ^ 0 : Nat) : Int)]) := s2 _ _ hatC
      clear F
      have F : SH H' [] H' [] [] := SH.nil
      have o_q := Old.mk (M := []) hq3 nm0
      have o_q2 := Old.mk (M := []) hq2 nm0
      repeat k_meth
      rw [meet_cast]
      exact kk _ F.sm
    replace F := (F.newL nw).addP tp2
    have yl2 := rowsN_len tp2
    have fl2 := List.length_filter_le (meetB s (2 ^ 0)) ts
    obtain ⟨tk, ok⟩ := ok
    repeat k_meth
    by_cases e0 : ys2 = []
    · have e1 : ts.filter (meetB s (2 ^ 0)) = [] := by
        rw [e0] at yl2
        exact List.eq_nil_of_length_eq_zero yl2.symm
      have e2 : fwF 0 s ts = [(s, 2 ^ 0)] := by rw [fwF, if_pos e1]
      rw [e2] at k
      rw [decide_eq_true e0]
      repeat k_meth
      exact k _ _ _ SH.nwC ⟨rfl, fun j r e => by
        cases j with
        | zero => cases e; exact ⟨q, rfl, hatC⟩
        | succ j => simp [rowsN] at e⟩
    have e1 : ts.filter (meetB s (2 ^ 0)) ≠ [] := fun z => e0 (by rw [z] at yl2; exact List.eq_nil_of_length_eq_zero yl2)
    rw [decide_eq_false e0]
    repeat k_meth
    refine ⟨q, pl, ys2, s, 2 ^ 0, _, rfl, rfl, hatC, SqA.e, TpA.e, ?_⟩
    rw [decide_eq_true (ok_zero ok e1)]
    have e2 : fwF 0 s ts = [] := by rw [fwF, if_neg e1]
    rw [e2] at k
    repeat k_meth
    exact k _ _ _ SH.nwC TupsAt.nil
theorem D_fwithin1 (T : Txt K mg c R ) : Def P w K mg base CX0 7 "free_within" ["piece", "taken"] (sp_fw 1) := by
  have D_share := D_share (P := P) (w := w) (base := base) T
  refine def_of T.d_fwithin sc_fwithin (fun vs H Q E h => ?_) (fun _ _ _ _ _ _ us hl => match us, hl with | [_, _], _ => rfl) (fun f cdv A outer s H vs Q E hr h => ?_)
  · obtain ⟨q, l, ys, ts, s, rfl, _⟩ := h
    rfl
  · obtain ⟨q, l, ys, ts, s, rfl, hq, hl, tp, fw, s1, ok, k⟩ := h
    have nd := sc_fwithin.nd
    refine ⟨_, (pss_cons (ps_setc (i := 2) nd rfl (Or.inl rfl) (N := ["one", "piece"]) (nt := 1) (fr := [0]) (pi_list (pv 1)) (fun _ _ _ _ => (pg_name (i := 0) (show (["one", "piece"] : List Str).Nodup from by decide +kernel) rfl (Or.inl rfl))) (fun _ _ _ _ => pif_one (pt_val (pe_def D_share hr (pa_cons (pv 1) (pa_cons (pv 0) pa_nil))))) (fun _ _ _ _ => (pv 0)))
      (pss_cons (ps_if (pt_cmpR (op_eqE hr) (pv 2) (pe_lstA pa_nil) (nomark _)) (pss_one (ps_ret (pe_lstA (pa_cons (pv 0) pa_nil)))) pss_nil)
      (pss_cons (ps_if (pt_cmpR (op_inP (K := K) rfl hr) (pv 0) (pv 2) (by with_unfolding_all rfl)) (pss_one (ps_ret (pe_lstA pa_nil))) pss_nil)
      (pss_cons (ps_set (i := 3) nd rfl (Or.inl rfl) (pe_op op_fdiv (pe_ix ix_tup (pv 0) pe_int (fun _ _ => rfl)) pe_int))
      (pss_one (ps_ret (pe_op op_catA (pe_def (D_fwithin0 (P := P) (w := w) (base := base) T) hr (pa_cons (pe_tupA (pa_cons (pe_ix ix_tup (pv 0) pe_int (fun _ _ => rfl)) (pa_cons (pv 3) pa_nil))) (pa_cons (pv 2) pa_nil))) (pe_def (D_fwithin0 (P := P) (w := w) (base := base) T) hr (pa_cons (pe_tupA (pa_cons (pe_op op_add (pe_ix ix_tup (pv 0) pe_int (fun _ _ => rfl)) (pv 3)) (pa_cons (pv 3) pa_nil))) (pa_cons (pv 2) pa_nil)))))))))), ?_⟩
    clear nd D_share
    rw [show start ["piece", "taken", "sharing", "half"] [.ref q, .ref l] = [some (.ref q), some (.ref l), none, none] from rfl]
    try dsimp only [cx_K, cx_K2]
    have o_hq := Old.mk (M := []) hq nm0
    have o_hl := Old.mk (M := []) hl nm0
    have o_tp := OldP.mk tp
    have F : SH H [] H [] [] := SH.nil
    have yl := rowsN_len tp
    repeat k_meth
    refine comp_fprs (ws := ts) (pr := meetB s (2 ^ 1)) (fvs := [some (.ref q)]) SqA.e TpA.e (by omega) rfl (fun q2 w H' R hw s2 hq2 kk => ?_) fun pl ys2 H2 nw tp2 => ?_
    · have hq3 : H' q = some (.tup [.int (s : Nat), .int ((2 ^ 1 : Nat) : Int)]) := s2 _ _ hatC
      clear F
      have F : SH H' [] H' [] [] := SH.nil
      have o_q := Old.mk (M := []) hq3 nm0
      have o_q2 := Old.mk (M := []) hq2 nm0
      repeat k_meth
      rw [meet_cast]
      exact kk _ F.sm
    replace F := (F.newL nw).addP tp2
    have yl2 := rowsN_len tp2
    have fl2 := List.length_filter_le (meetB s (2 ^ 1)) ts
    obtain ⟨tk, ok⟩ := ok
    repeat k_meth
    by_cases e0 : ys2 = []
    · have e1 : ts.filter (meetB s (2 ^ 1)) = [] := by
        rw [e0] at yl2
        exact List.eq_nil_of_length_eq_zero yl2.symm
      have e2 : fwF 1 s ts = [(s, 2 ^ 1)] := by rw [fwF, if_pos e1]
      rw [e2] at k
      rw [decide_eq_true e0]
      repeat k_meth
      exact k _ _ _ SH.nwC ⟨rfl, fun j r e => by
        cases j with
        | zero => cases e; exact ⟨q, rfl, hatC⟩
        | succ j => simp [rowsN] at e⟩
    have e1 : ts.filter (meetB s (2 ^ 1)) ≠ [] := fun z => e0 (by rw [z] at yl2; exact List.eq_nil_of_length_eq_zero yl2)
    rw [decide_eq_false e0]
    repeat k_meth
    refine ⟨q, pl, ys2, s, 2 ^ 1, _, rfl, rfl, hatC, SqA.e, TpA.e, ?_⟩
    by_cases hm : (s, 2 ^ 1) ∈ ts.filter (meetB s (2 ^ 1))
    · rw [decide_eq_true hm]
      have e2 : fwF 1 s ts = [] := by rw [fwF, if_neg e1, if_pos hm]
      rw [e2] at k
      repeat k_meth
      exact k _ _ _ SH.nwC TupsAt.nil
    rw [decide_eq_false hm]
    have e2 : fwF 1 s ts = fwF 0 s (ts.filter (meetB s (2 ^ 1))) ++ fwF 0 (s + 2 ^ 0) (ts.filter (meetB s (2 ^ 1))) := fwF_two (k := 0) e1 hm
    rw [e2] at k
    obtain ⟨ok1, ok2⟩ := ok.filt.halves hm
    repeat k_meth
    rw [show ((2 ^ 1 : Nat) : Int) / 2 = ((2 ^ 0 : Nat) : Int) by decide]
    repeat k_meth
    refine ⟨p_, pl, ys2, _, s, rfl, hatC, hatC, TpA.e, by omega, by omega, ⟨tk, ok1⟩, fun p1 zs1 H3 n3 t3 => ?_⟩
    replace F := (F.newL n3).addP t3
    repeat k_meth
    rw [show (s : Int) + ((2 ^ 0 : Nat) : Int) = ((s + 2 ^ 0 : Nat) : Int) by omega] at F
    refine ⟨p_, pl, ys2, _, s + 2 ^ 0, rfl, hatC, hatC, TpA.e, by omega, by omega, ⟨tk, ok2⟩, fun p2 zs2 H4 n4 t4 => ?_⟩
    replace F := (F.newL n4).addP t4
    have z1 := rowsN_len t3
    have z2 := rowsN_len t4
    have w1 := fwF_len 0 s (ts.filter (meetB s (2 ^ 1)))
    have w2 := fwF_len 0 (s + 2 ^ 0) (ts.filter (meetB s (2 ^ 1)))
    have z3 : zs1.length + zs2.length ≤ sizeLine := by rw [sizeLine_eq]; omega
    repeat k_meth
    exact k _ _ _ SH.nwC (tups_app TpA.e TpA.e)
theorem D_fwithin2 (T : Txt K mg c R ) : Def P w K mg base CX0 8 "free_within" ["piece", "taken"] (sp_fw 2) := by
  have D_share := D_share (P := P) (w := w) (base := base) T
  refine def_of T.d_fwithin sc_fwithin (fun vs H Q E h => ?_) (fun _ _ _ _ _ _ us hl => match us, hl with | [_, _], _ => rfl) (fun f cdv A outer s H vs Q E hr h => ?_)
  · obtain ⟨q, l, ys, ts, s, rfl, _⟩ := h
    rfl
  · obtain ⟨q, l, ys, ts, s, rfl, hq, hl, tp, fw, s1, ok, k⟩ := h
    have nd := sc_fwithin.nd
    refine ⟨_, (pss_cons (ps_setc (i := 2) nd rfl (Or.inl rfl) (N := ["one", "piece"]) (nt := 1) (fr := [0]) (pi_list (pv 1)) (fun _ _ _ _ => (pg_name (i := 0) (show (["one", "piece"] : List Str).Nodup from by decide +kernel) rfl (Or.inl rfl))) (fun _ _ _ _ => pif_one (pt_val (pe_def D_share hr (pa_cons (pv 1) (pa_cons (pv 0) pa_nil))))) (fun _ _ _ _ => (pv 0)))
      (pss_cons (ps_if (pt_cmpR (op_eqE hr) (pv 2) (pe_lstA pa_nil) (nomark _)) (pss_one (ps_ret (pe_lstA (pa_cons (pv 0) pa_nil)))) pss_nil)
      (pss_cons (ps_if (pt_cmpR (op_inP (K := K) rfl hr) (pv 0) (pv 2) (by with_unfolding_all rfl)) (pss_one (ps_ret (pe_lstA pa_nil))) pss_nil)
      (pss_cons (ps_set (i := 3) nd rfl (Or.inl rfl) (pe_op op_fdiv (pe_ix ix_tup (pv 0) pe_int (fun _ _ => rfl)) pe_int))
      (pss_one (ps_ret (pe_op op_catA (pe_def (D_fwithin1 (P := P) (w := w) (base := base) T) hr (pa_cons (pe_tupA (pa_cons (pe_ix ix_tup (pv 0) pe_int (fun _ _ => rfl)) (pa_cons (pv 3) pa_nil))) (pa_cons (pv 2) pa_nil))) (pe_def (D_fwithin1 (P := P) (w := w) (base := base) T) hr (pa_cons (pe_tupA (pa_cons (pe_op op_add (pe_ix ix_tup (pv 0) pe_int (fun _ _ => rfl)) (pv 3)) (pa_cons (pv 3) pa_nil))) (pa_cons (pv 2) pa_nil)))))))))), ?_⟩
    clear nd D_share
    rw [show start ["piece", "taken", "sharing", "half"] [.ref q, .ref l] = [some (.ref q), some (.ref l), none, none] from rfl]
    try dsimp only [cx_K, cx_K2]
    have o_hq := Old.mk (M := []) hq nm0
    have o_hl := Old.mk (M := []) hl nm0
    have o_tp := OldP.mk tp
    have F : SH H [] H [] [] := SH.nil
    have yl := rowsN_len tp
    repeat k_meth
    refine comp_fprs (ws := ts) (pr := meetB s (2 ^ 2)) (fvs := [some (.ref q)]) SqA.e TpA.e (by omega) rfl (fun q2 w H' R hw s2 hq2 kk => ?_) fun pl ys2 H2 nw tp2 => ?_
    · have hq3 : H' q = some (.tup [.int (s : Nat), .int ((2 ^ 2 : Nat) : Int)]) := s2 _ _ hatC
      clear F
      have F : SH H' [] H' [] [] := SH.nil
      have o_q := Old.mk (M := []) hq3 nm0
      have o_q2 := Old.mk (M := []) hq2 nm0
      repeat k_meth
      rw [meet_cast]
      exact kk _ F.sm
    replace F := (F.newL nw).addP tp2
    have yl2 := rowsN_len tp2
    have fl2 := List.length_filter_le (meetB s (2 ^ 2)) ts
    obtain ⟨tk, ok⟩ := ok
    repeat k_meth
    by_cases e0 : ys2 = []
    · have e1 : ts.filter (meetB s (2 ^ 2)) = [] := by
        rw [e0] at yl2
        exact List.eq_nil_of_length_eq_zero yl2.symm
      have e2 : fwF 2 s ts = [(s, 2 ^ 2)] := by rw [fwF, if_pos e1]
      rw [e2] at k
      rw [decide_eq_true e0]
      repeat k_meth
      exact k _ _ _ SH.nwC ⟨rfl, fun j r e => by
        cases j with
        | zero => cases e; exact ⟨q, rfl, hatC⟩
        | succ j => simp [rowsN] at e⟩
    have e1 : ts.filter (meetB s (2 ^ 2)) ≠ [] := fun z => e0 (by rw [z] at yl2; exact List.eq_nil_of_length_eq_zero yl2)
    rw [decide_eq_false e0]
    repeat k_meth
    refine ⟨q, pl, ys2, s, 2 ^ 2, _, rfl, rfl, hatC, SqA.e, TpA.e, ?_⟩
    by_cases hm : (s, 2 ^ 2) ∈ ts.filter (meetB s (2 ^ 2))
    · rw [decide_eq_true hm]
      have e2 : fwF 2 s ts = [] := by rw [fwF, if_neg e1, if_pos hm]
      rw [e2] at k
      repeat k_meth
      exact k _ _ _ SH.nwC TupsAt.nil
    rw [decide_eq_false hm]
    have e2 : fwF 2 s ts = fwF 1 s (ts.filter (meetB s (2 ^ 2))) ++ fwF 1 (s + 2 ^ 1) (ts.filter (meetB s (2 ^ 2))) := fwF_two (k := 1) e1 hm
    rw [e2] at k
    obtain ⟨ok1, ok2⟩ := ok.filt.halves hm
    repeat k_meth
    rw [show ((2 ^ 2 : Nat) : Int) / 2 = ((2 ^ 1 : Nat) : Int) by decide]
    repeat k_meth
    refine ⟨p_, pl, ys2, _, s, rfl, hatC, hatC, TpA.e, by omega, by omega, ⟨tk, ok1⟩, fun p1 zs1 H3 n3 t3 => ?_⟩
    replace F := (F.newL n3).addP t3
    repeat k_meth
    rw [show (s : Int) + ((2 ^ 1 : Nat) : Int) = ((s + 2 ^ 1 : Nat) : Int) by omega] at F
    refine ⟨p_, pl, ys2, _, s + 2 ^ 1, rfl, hatC, hatC, TpA.e, by omega, by omega, ⟨tk, ok2⟩, fun p2 zs2 H4 n4 t4 => ?_⟩
    replace F := (F.newL n4).addP t4
    have z1 := rowsN_len t3
    have z2 := rowsN_len t4
    have w1 := fwF_len 1 s (ts.filter (meetB s (2 ^ 2)))
    have w2 := fwF_len 1 (s + 2 ^ 1) (ts.filter (meetB s (2 ^ 2)))
    have z3 : zs1.length + zs2.length ≤ sizeLine := by rw [sizeLine_eq]; omega
    repeat k_meth
    exact k _ _ _ SH.nwC (tups_app TpA.e TpA.e)
theorem D_fwithin3 (T : Txt K mg c R ) : Def P w K mg base CX0 9 "free_within" ["piece", "taken"] (sp_fw 3) := by
  have D_share := D_share (P := P) (w := w) (base := base) T
  refine def_of T.d_fwithin sc_fwithin (fun vs H Q E h => ?_) (fun _ _ _ _ _ _ us hl => match us, hl with | [_, _], _ => rfl) (fun f cdv A outer s H vs Q E hr h => ?_)
  · obtain ⟨q, l, ys, ts, s, rfl, _⟩ := h
    rfl
  · obtain ⟨q, l, ys, ts, s, rfl, hq, hl, tp, fw, s1, ok, k⟩ := h
    have nd := sc_fwithin.nd
    refine ⟨_, (pss_cons (ps_setc (i := 2) nd rfl (Or.inl rfl) (N := ["one", "piece"]) (nt := 1) (fr := [0]) (pi_list (pv 1)) (fun _ _ _ _ => (pg_name (i := 0) (show (["one", "piece"] : List Str).Nodup from by decide +kernel) rfl (Or.inl rfl))) (fun _ _ _ _ => pif_one (pt_val (pe_def D_share hr (pa_cons (pv 1) (pa_cons (pv 0) pa_nil))))) (fun _ _ _ _ => (pv 0)))
      (pss_cons (ps_if (pt_cmpR (op_eqE hr) (pv 2) (pe_lstA pa_nil) (nomark _)) (pss_one (ps_ret (pe_lstA (pa_cons (pv 0) pa_nil)))) pss_nil)
      (pss_cons (ps_if (pt_cmpR (op_inP (K := K) rfl hr) (pv 0) (pv 2) (by with_unfolding_all rfl)) (pss_one (ps_ret (pe_lstA pa_nil))) pss_nil)
      (pss_cons (ps_set (i := 3) nd rfl (Or.inl rfl) (pe_op op_fdiv (pe_ix ix_tup (pv 0) pe_int (fun _ _ => rfl)) pe_int))
      (pss_one (ps_ret (pe_op op_catA (pe_def (D_fwithin2 (P := P) (w := w) (base := base) T) hr (pa_cons (pe_tupA (pa_cons (pe_ix ix_tup (pv 0) pe_int (fun _ _ => rfl)) (pa_cons (pv 3) pa_nil))) (pa_cons (pv 2) pa_nil))) (pe_def (D_fwithin2 (P := P) (w := w) (base := base) T) hr (pa_cons (pe_tupA (pa_cons (pe_op op_add (pe_ix ix_tup (pv 0) pe_int (fun _ _ => rfl)) (pv 3)) (pa_cons (pv 3) pa_nil))) (pa_cons (pv 2) pa_nil)))))))))), ?_⟩
    clear nd D_share
    rw [show start ["piece", "taken", "sharing", "half"] [.ref q, .ref l] = [some (.ref q), some (.ref l), none, none] from rfl]
    try dsimp only [cx_K, cx_K2]
    have o_hq := Old.mk (M := []) hq nm0
    have o_hl := Old.mk (M := []) hl nm0
    have o_tp := OldP.mk tp
    have F : SH H [] H [] [] := SH.nil
    have yl := rowsN_len tp
    repeat k_meth
    refine comp_fprs (ws := ts) (pr := meetB s (2 ^ 3)) (fvs := [some (.ref q)]) SqA.e TpA.e (by omega) rfl (fun q2 w H' R hw s2 hq2 kk => ?_) fun pl ys2 H2 nw tp2 => ?_
    · have hq3 : H' q = some (.tup [.int (s : Nat), .int ((2 ^ 3 : Nat) : Int)]) := s2 _ _ hatC
      clear F
      have F : SH H' [] H' [] [] := SH.nil
      have o_q := Old.mk (M := []) hq3 nm0
      have o_q2 := Old.mk (M := []) hq2 nm0
      repeat k_meth
      rw [meet_cast]
      exact kk _ F.sm
    replace F := (F.newL nw).addP tp2
    have yl2 := rowsN_len tp2
    have fl2 := List.length_filter_le (meetB s (2 ^ 3)) ts
    obtain ⟨tk, ok⟩ := ok
    repeat k_meth
    by_cases e0 : ys2 = []
    · have e1 : ts.filter (meetB s (2 ^ 3)) = [] := by
        rw [e0] at yl2
        exact List.eq_nil_of_length_eq_zero yl2.symm
      have e2 : fwF 3 s ts = [(s, 2 ^ 3)] := by rw [fwF, if_pos e1]
      rw [e2] at k
      rw [decide_eq_true e0]
      repeat k_meth
      exact k _ _ _ SH.nwC ⟨rfl, fun j r e => by
        cases j with
        | zero => cases e; exact ⟨q, rfl, hatC⟩
        | succ j => simp [rowsN] at e⟩
    have e1 : ts.filter (meetB s (2 ^ 3)) ≠ [] := fun z => e0 (by rw [z] at yl2; exact List.eq_nil_of_length_eq_zero yl2)
    rw [decide_eq_false e0]
    repeat k_meth
    refine ⟨q, pl, ys2, s, 2 ^ 3, _, rfl, rfl, hatC, SqA.e, TpA.e, ?_⟩
    by_cases hm : (s, 2 ^ 3) ∈ ts.filter (meetB s (2 ^ 3))
    · rw [decide_eq_true hm]
      have e2 : fwF 3 s ts = [] := by rw [fwF, if_neg e1, if_pos hm]
      rw [e2] at k
      repeat k_meth
      exact k _ _ _ SH.nwC TupsAt.nil
    rw [decide_eq_false hm]
    have e2 : fwF 3 s ts = fwF 2 s (ts.filter (meetB s (2 ^ 3))) ++ fwF 2 (s + 2 ^ 2) (ts.filter (meetB s (2 ^ 3))) := fwF_two (k := 2) e1 hm
    rw [e2] at k
    obtain ⟨ok1, ok2⟩ := ok.filt.halves hm
    repeat k_meth
    rw [show ((2 ^ 3 : Nat) : Int) / 2 = ((2 ^ 2 : Nat) : Int) by decide]
    repeat k_meth
    refine ⟨p_, pl, ys2, _, s, rfl, hatC, hatC, TpA.e, by omega, by omega, ⟨tk, ok1⟩, fun p1 zs1 H3 n3 t3 => ?_⟩
    replace F := (F.newL n3).addP t3
    repeat k_meth
    rw [show (s : Int) + ((2 ^ 2 : Nat) : Int) = ((s + 2 ^ 2 : Nat) : Int) by omega] at F
    refine ⟨p_, pl, ys2, _, s + 2 ^ 2, rfl, hatC, hatC, TpA.e, by omega, by omega, ⟨tk, ok2⟩, fun p2 zs2 H4 n4 t4 => ?_⟩
    replace F := (F.newL n4).addP t4
    have z1 := rowsN_len t3
    have z2 := rowsN_len t4
    have w1 := fwF_len 2 s (ts.filter (meetB s (2 ^ 3)))
    have w2 := fwF_len 2 (s + 2 ^ 2) (ts.filter (meetB s (2 ^ 3)))
    have z3 : zs1.length + zs2.length ≤ sizeLine := by rw [sizeLine_eq]; omega
    repeat k_meth
    exact k _ _ _ SH.nwC (tups_app TpA.e TpA.e)
theorem D_fwithin4 (T : Txt K mg c R ) : Def P w K mg base CX0 10 "free_within" ["piece", "taken"] (sp_fw 4) := by
  have D_share := D_share (P := P) (w := w) (base := base) T
  refine def_of T.d_fwithin sc_fwithin (fun vs H Q E h => ?_) (fun _ _ _ _ _ _ us hl => match us, hl with | [_, _], _ => rfl) (fun f cdv A outer s H vs Q E hr h => ?_)
  · obtain ⟨q, l, ys, ts, s, rfl, _⟩ := h
    rfl
  · obtain ⟨q, l, ys, ts, s, rfl, hq, hl, tp, fw, s1, ok, k⟩ := h
    have nd := sc_fwithin.nd
    refine ⟨_, (pss_cons (ps_setc (i := 2) nd rfl (Or.inl rfl) (N := ["one", "piece"]) (nt := 1) (fr := [0]) (pi_list (pv 1)) (fun _ _ _ _ => (pg_name (i := 0) (show (["one", "piece"] : List Str).Nodup from by decide +kernel) rfl (Or.inl rfl))) (fun _ _ _ _ => pif_one (pt_val (pe_def D_share hr (pa_cons (pv 1) (pa_cons (pv 0) pa_nil))))) (fun _ _ _ _ => (pv 0)))
      (pss_cons (ps_if (pt_cmpR (op_eqE hr) (pv 2) (pe_lstA pa_nil) (nomark _)) (pss_one (ps_ret (pe_lstA (pa_cons (pv 0) pa_nil)))) pss_nil)
      (pss_cons (ps_if (pt_cmpR (op_inP (K := K) rfl hr) (pv 0) (pv 2) (by with_unfolding_all rfl)) (pss_one (ps_ret (pe_lstA pa_nil))) pss_nil)
      (pss_cons (ps_set (i := 3) nd rfl (Or.inl rfl) (pe_op op_fdiv (pe_ix ix_tup (pv 0) pe_int (fun _ _ => rfl)) pe_int))
      (pss_one (ps_ret (pe_op op_catA (pe_def (D_fwithin3 (P := P) (w := w) (base := base) T) hr (pa_cons (pe_tupA (pa_cons (pe_ix ix_tup (pv 0) pe_int (fun _ _ => rfl)) (pa_cons (pv 3) pa_nil))) (pa_cons (pv 2) pa_nil))) (pe_def (D_fwithin3 (P := P) (w := w) (base := base) T) hr (pa_cons (pe_tupA (pa_cons (pe_op op_add (pe_ix ix_tup (pv 0) pe_int (fun _ _ => rfl)) (pv 3)) (pa_cons (pv 3) pa_nil))) (pa_cons (pv 2) pa_nil)))))))))), ?_⟩
    clear nd D_share
    rw [show start ["piece", "taken", "sharing", "half"] [.ref q, .ref l] = [some (.ref q), some (.ref l), none, none] from rfl]
    try dsimp only [cx_K, cx_K2]
    have o_hq := Old.mk (M := []) hq nm0
    have o_hl := Old.mk (M := []) hl nm0
    have o_tp := OldP.mk tp
    have F : SH H [] H [] [] := SH.nil
    have yl := rowsN_len tp
    repeat k_meth
    refine comp_fprs (ws := ts) (pr := meetB s (2 ^ 4)) (fvs := [some (.ref q)]) SqA.e TpA.e (by omega) rfl (fun q2 w H' R hw s2 hq2 kk => ?_) fun pl ys2 H2 nw tp2 => ?_
    · have hq3 : H' q = some (.tup [.int (s : Nat), .int ((2 ^ 4 : Nat) : Int)]) := s2 _ _ hatC
      clear F
      have F : SH H' [] H' [] [] := SH.nil
      have o_q := Old.mk (M := []) hq3 nm0
      have o_q2 := Old.mk (M := []) hq2 nm0
      repeat k_meth
      rw [meet_cast]
      exact kk _ F.sm
    replace F := (F.newL nw).addP tp2
    have yl2 := rowsN_len tp2
    have fl2 := List.length_filter_le (meetB s (2 ^ 4)) ts
    obtain ⟨tk, ok⟩ := ok
    repeat k_meth
    by_cases e0 : ys2 = []
    · have e1 : ts.filter (meetB s (2 ^ 4)) = [] := by
        rw [e0] at yl2
        exact List.eq_nil_of_length_eq_zero yl2.symm
      have e2 : fwF 4 s ts = [(s, 2 ^ 4)] := by rw [fwF, if_pos e1]
      rw [e2] at k
      rw [decide_eq_true e0]
      repeat k_meth
      exact k _ _ _ SH.nwC ⟨rfl, fun j r e => by
        cases j with
        | zero => cases e; exact ⟨q, rfl, hatC⟩
        | succ j => simp [rowsN] at e⟩
    have e1 : ts.filter (meetB s (2 ^ 4)) ≠ [] := fun z => e0 (by rw [z] at yl2; exact List.eq_nil_of_length_eq_zero yl2)
    rw [decide_eq_false e0]
    repeat k_meth
    refine ⟨q, pl, ys2, s, 2 ^ 4, _, rfl, rfl, hatC, SqA.e, TpA.e, ?_⟩
    by_cases hm : (s, 2 ^ 4) ∈ ts.filter (meetB s (2 ^ 4))
    · rw [decide_eq_true hm]
      have e2 : fwF 4 s ts = [] := by rw [fwF, if_neg e1, if_pos hm]
      rw [e2] at k
      repeat k_meth
      exact k _ _ _ SH.nwC TupsAt.nil
    rw [decide_eq_false hm]
    have e2 : fwF 4 s ts = fwF 3 s (ts.filter (meetB s (2 ^ 4))) ++ fwF 3 (s + 2 ^ 3) (ts.filter (meetB s (2 ^ 4))) := fwF_two (k := 3) e1 hm
    rw [e2] at k
    obtain ⟨ok1, ok2⟩ := ok.filt.halves hm
    repeat k_meth
    rw [show ((2 ^ 4 : Nat) : Int) / 2 = ((2 ^ 3 : Nat) : Int) by decide]
    repeat k_meth
    refine ⟨p_, pl, ys2, _, s, rfl, hatC, hatC, TpA.e, by omega, by omega, ⟨tk, ok1⟩, fun p1 zs1 H3 n3 t3 => ?_⟩
    replace F := (F.newL n3).addP t3
    repeat k_meth
    rw [show (s : Int) + ((2 ^ 3 : Nat) : Int) = ((s + 2 ^ 3 : Nat) : Int) by omega] at F
    refine ⟨p_, pl, ys2, _, s + 2 ^ 3, rfl, hatC, hatC, TpA.e, by omega, by omega, ⟨tk, ok2⟩, fun p2 zs2 H4 n4 t4 => ?_⟩
    replace F := (F.newL n4).addP t4
    have z1 := rowsN_len t3
    have z2 := rowsN_len t4
    have w1 := fwF_len 3 s (ts.filter (meetB s (2 ^ 4)))
    have w2 := fwF_len 3 (s + 2 ^ 3) (ts.filter (meetB s (2 ^ 4)))
    have z3 : zs1.length + zs2.length ≤ sizeLine := by rw [sizeLine_eq]; omega
    repeat k_meth
    exact k _ _ _ SH.nwC (tups_app TpA.e TpA.e)
theorem D_fwithin5 (T : Txt K mg c R ) : Def P w K mg base CX0 11 "free_within" ["piece", "taken"] (sp_fw 5) := by
  have D_share := D_share (P := P) (w := w) (base := base) T
  refine def_of T.d_fwithin sc_fwithin (fun vs H Q E h => ?_) (fun _ _ _ _ _ _ us hl => match us, hl with | [_, _], _ => rfl) (fun f cdv A outer s H vs Q E hr h => ?_)
  · obtain ⟨q, l, ys, ts, s, rfl, _⟩ := h
    rfl
  · obtain ⟨q, l, ys, ts, s, rfl, hq, hl, tp, fw, s1, ok, k⟩ := h
    have nd := sc_fwithin.nd
    refine ⟨_, (pss_cons (ps_setc (i := 2) nd rfl (Or.inl rfl) (N := ["one", "piece"]) (nt := 1) (fr := [0]) (pi_list (pv 1)) (fun _ _ _ _ => (pg_name (i := 0) (show (["one", "piece"] : List Str).Nodup from by decide +kernel) rfl (Or.inl rfl))) (fun _ _ _ _ => pif_one (pt_val (pe_def D_share hr (pa_cons (pv 1) (pa_cons (pv 0) pa_nil))))) (fun _ _ _ _ => (pv 0)))
      (pss_cons (ps_if (pt_cmpR (op_eqE hr) (pv 2) (pe_lstA pa_nil) (nomark _)) (pss_one (ps_ret (pe_lstA (pa_cons (pv 0) pa_nil)))) pss_nil)
      (pss_cons (ps_if (pt_cmpR (op_inP (K := K) rfl hr) (pv 0) (pv 2) (by with_unfolding_all rfl)) (pss_one (ps_ret (pe_lstA pa_nil))) pss_nil)
      (pss_cons (ps_set (i := 3) nd rfl (Or.inl rfl) (pe_op op_fdiv (pe_ix ix_tup (pv 0) pe_int (fun _ _ => rfl)) pe_int))
      (pss_one (ps_ret (pe_op op_catA (pe_def (D_fwithin4 (P := P) (w := w) (base := base) T) hr (pa_cons (pe_tupA (pa_cons (pe_ix ix_tup (pv 0) pe_int (fun _ _ => rfl)) (pa_cons (pv 3) pa_nil))) (pa_cons (pv 2) pa_nil))) (pe_def (D_fwithin4 (P := P) (w := w) (base := base) T) hr (pa_cons (pe_tupA (pa_cons (pe_op op_add (pe_ix ix_tup (pv 0) pe_int (fun _ _ => rfl)) (pv 3)) (pa_cons (pv 3) pa_nil))) (pa_cons (pv 2) pa_nil)))))))))), ?_⟩
    clear nd D_share
    rw [show start ["piece", "taken", "sharing", "half"] [.ref q, .ref l] = [some (.ref q), some (.ref l), none, none] from rfl]
    try dsimp only [cx_K, cx_K2]
    have o_hq := Old.mk (M := []) hq nm0
    have o_hl := Old.mk (M := []) hl nm0
    have o_tp := OldP.mk tp
    have F : SH H [] H [] [] := SH.nil
    have yl := rowsN_len tp
    repeat k_meth
    refine comp_fprs (ws := ts) (pr := meetB s (2 ^ 5)) (fvs := [some (.ref q)]) SqA.e TpA.e (by omega) rfl (fun q2 w H' R hw s2 hq2 kk => ?_) fun pl ys2 H2 nw tp2 => ?_
    · have hq3 : H' q = some (.tup [.int (s : Nat), .int ((2 ^ 5 : Nat) : Int)]) := s2 _ _ hatC
      clear F
      have F : SH H' [] H' [] [] := SH.nil
      have o_q := Old.mk (M := []) hq3 nm0
      have o_q2 := Old.mk (M := []) hq2 nm0
      repeat k_meth
      rw [meet_cast]
      exact kk _ F.sm
    replace F := (F.newL nw).addP tp2
    have yl2 := rowsN_len tp2
    have fl2 := List.length_filter_le (meetB s (2 ^ 5)) ts
    obtain ⟨tk, ok⟩ := ok
    repeat k_meth
    by_cases e0 : ys2 = []
    · have e1 : ts.filter (meetB s (2 ^ 5)) = [] := by
        rw [e0] at yl2
        exact List.eq_nil_of_length_eq_zero yl2.symm
      have e2 : fwF 5 s ts = [(s, 2 ^ 5)] := by rw [fwF, if_pos e1]
      rw [e2] at k
      rw [decide_eq_true e0]
      repeat k_meth
      exact k _ _ _ SH.nwC ⟨rfl, fun j r e => by
        cases j with
        | zero => cases e; exact ⟨q, rfl, hatC⟩
        | succ j => simp [rowsN] at e⟩
    have e1 : ts.filter (meetB s (2 ^ 5)) ≠ [] := fun z => e0 (by rw [z] at yl2; exact List.eq_nil_of_length_eq_zero yl2)
    rw [decide_eq_false e0]
    repeat k_meth
    refine ⟨q, pl, ys2, s, 2 ^ 5, _, rfl, rfl, hatC, SqA.e, TpA.e, ?_⟩
    by_cases hm : (s, 2 ^ 5) ∈ ts.filter (meetB s (2 ^ 5))
    · rw [decide_eq_true hm]
      have e2 : fwF 5 s ts = [] := by rw [fwF, if_neg e1, if_pos hm]
      rw [e2] at k
      repeat k_meth
      exact k _ _ _ SH.nwC TupsAt.nil
    rw [decide_eq_false hm]
    have e2 : fwF 5 s ts = fwF 4 s (ts.filter (meetB s (2 ^ 5))) ++ fwF 4 (s + 2 ^ 4) (ts.filter (meetB s (2 ^ 5))) := fwF_two (k := 4) e1 hm
    rw [e2] at k
    obtain ⟨ok1, ok2⟩ := ok.filt.halves hm
    repeat k_meth
    rw [show ((2 ^ 5 : Nat) : Int) / 2 = ((2 ^ 4 : Nat) : Int) by decide]
    repeat k_meth
    refine ⟨p_, pl, ys2, _, s, rfl, hatC, hatC, TpA.e, by omega, by omega, ⟨tk, ok1⟩, fun p1 zs1 H3 n3 t3 => ?_⟩
    replace F := (F.newL n3).addP t3
    repeat k_meth
    rw [show (s : Int) + ((2 ^ 4 : Nat) : Int) = ((s + 2 ^ 4 : Nat) : Int) by omega] at F
    refine ⟨p_, pl, ys2, _, s + 2 ^ 4, rfl, hatC, hatC, TpA.e, by omega, by omega, ⟨tk, ok2⟩, fun p2 zs2 H4 n4 t4 => ?_⟩
    replace F := (F.newL n4).addP t4
    have z1 := rowsN_len t3
    have z2 := rowsN_len t4
    have w1 := fwF_len 4 s (ts.filter (meetB s (2 ^ 5)))
    have w2 := fwF_len 4 (s + 2 ^ 4) (ts.filter (meetB s (2 ^ 5)))
    have z3 : zs1.length + zs2.length ≤ sizeLine := by rw [sizeLine_eq]; omega
    repeat k_meth
    exact k _ _ _ SH.nwC (tups_app TpA.e TpA.e)
theorem D_fwithin6 (T : Txt K mg c R ) : Def P w K mg base CX0 12 "free_within" ["piece", "taken"] (sp_fw 6) := by
  have D_share := D_share (P := P) (w := w) (base := base) T
  refine def_of T.d_fwithin sc_fwithin (fun vs H Q E h => ?_) (fun _ _ _ _ _ _ us hl => match us, hl with | [_, _], _ => rfl) (fun f cdv A outer s H vs Q E hr h => ?_)
  · obtain ⟨q, l, ys, ts, s, rfl, _⟩ := h
    rfl
  · obtain ⟨q, l, ys, ts, s, rfl, hq, hl, tp, fw, s1, ok, k⟩ := h
    have nd := sc_fwithin.nd
    refine ⟨_, (pss_cons (ps_setc (i := 2) nd rfl (Or.inl rfl) (N := ["one", "piece"]) (nt := 1) (fr := [0]) (pi_list (pv 1)) (fun _ _ _ _ => (pg_name (i := 0) (show (["one", "piece"] : List Str).Nodup from by decide +kernel) rfl (Or.inl rfl))) (fun _ _ _ _ => pif_one (pt_val (pe_def D_share hr (pa_cons (pv 1) (pa_cons (pv 0) pa_nil))))) (fun _ _ _ _ => (pv 0)))
      (pss_cons (ps_if (pt_cmpR (op_eqE hr) (pv 2) (pe_lstA pa_nil) (nomark _)) (pss_one (ps_ret (pe_lstA (pa_cons (pv 0) pa_nil)))) pss_nil)
      (pss_cons (ps_if (pt_cmpR (op_inP (K := K) rfl hr) (pv 0) (pv 2) (by with_unfolding_all rfl)) (pss_one (ps_ret (pe_lstA pa_nil))) pss_nil)
      (pss_cons (ps_set (i := 3) nd rfl (Or.inl rfl) (pe_op op_fdiv (pe_ix ix_tup (pv 0) pe_int (fun _ _ => rfl)) pe_int))
      (pss_one (ps_ret (pe_op op_catA (pe_def (D_fwithin5 (P := P) (w := w) (base := base) T) hr (pa_cons (pe_tupA (pa_cons (pe_ix ix_tup (pv 0) pe_int (fun _ _ => rfl)) (pa_cons (pv 3) pa_nil))) (pa_cons (pv 2) pa_nil))) (pe_def (D_fwithin5 (P := P) (w := w) (base := base) T) hr (pa_cons (pe_tupA (pa_cons (pe_op op_add (pe_ix ix_tup (pv 0) pe_int (fun _ _ => rfl)) (pv 3)) (pa_cons (pv 3) pa_nil))) (pa_cons (pv 2) pa_nil)))))))))), ?_⟩
    clear nd D_share
    rw [show start ["piece", "taken", "sharing", "half"] [.ref q, .ref l] = [some (.ref q), some (.ref l), none, none] from rfl]
    try dsimp only [cx_K, cx_K2]
    have o_hq := Old.mk (M := []) hq nm0
    have o_hl := Old.mk (M := []) hl nm0
    have o_tp := OldP.mk tp
    have F : SH H [] H [] [] := SH.nil
    have yl := rowsN_len tp
    repeat k_meth
    refine comp_fprs (ws := ts) (pr := meetB s (2 ^ 6)) (fvs := [some (.ref q)]) SqA.e TpA.e (by omega) rfl (fun q2 w H' R hw s2 hq2 kk => ?_) fun pl ys2 H2 nw tp2 => ?_
    · have hq3 : H' q = some (.tup [.int (s : Nat), .int ((2 ^ 6 : Nat) : Int)]) := s2 _ _ hatC
      clear F
      have F : SH H' [] H' [] [] := SH.nil
      have o_q := Old.mk (M := []) hq3 nm0
      have o_q2 := Old.mk (M := []) hq2 nm0
      repeat k_meth
      rw [meet_cast]
      exact kk _ F.sm
    replace F := (F.newL nw).addP tp2
    have yl2 := rowsN_len tp2
    have fl2 := List.length_filter_le (meetB s (2 ^ 6)) ts
    obtain ⟨tk, ok⟩ := ok
    repeat k_meth
    by_cases e0 : ys2 = []
    · have e1 : ts.filter (meetB s (2 ^ 6)) = [] := by
        rw [e0] at yl2
        exact List.eq_nil_of_length_eq_zero yl2.symm
      have e2 : fwF 6 s ts = [(s, 2 ^ 6)] := by rw [fwF, if_pos e1]
      rw [e2] at k
      rw [decide_eq_true e0]
      repeat k_meth
      exact k _ _ _ SH.nwC ⟨rfl, fun j r e => by
        cases j with
        | zero => cases e; exact ⟨q, rfl, hatC⟩
        | succ j => simp [rowsN] at e⟩
    have e1 : ts.filter (meetB s (2 ^ 6)) ≠ [] := fun z => e0 (by rw [z] at yl2; exact List.eq_nil_of_length_eq_zero yl2)
    rw [decide_eq_false e0]
    repeat k_meth
    refine ⟨q, pl, ys2, s, 2 ^ 6, _, rfl, rfl, hatC, SqA.e, TpA.e, ?_⟩
    by_cases hm : (s, 2 ^ 6) ∈ ts.filter (meetB s (2 ^ 6))
    · rw [decide_eq_true hm]
      have e2 : fwF 6 s ts = [] := by rw [fwF, if_neg e1, if_pos hm]
      rw [e2] at k
      repeat k_meth
      exact k _ _ _ SH.nwC TupsAt.nil
    rw [decide_eq_false hm]
    have e2 : fwF 6 s ts = fwF 5 s (ts.filter (meetB s (2 ^ 6))) ++ fwF 5 (s + 2 ^ 5) (ts.filter (meetB s (2 ^ 6))) := fwF_two (k := 5) e1 hm
    rw [e2] at k
    obtain ⟨ok1, ok2⟩ := ok.filt.halves hm
    repeat k_meth
    rw [show ((2 ^ 6 : Nat) : Int) / 2 = ((2 ^ 5 : Nat) : Int) by decide]
    repeat k_meth
    refine ⟨p_, pl, ys2, _, s, rfl, hatC, hatC, TpA.e, by omega, by omega, ⟨tk, ok1⟩, fun p1 zs1 H3 n3 t3 => ?_⟩
    replace F := (F.newL n3).addP t3
    repeat k_meth
    rw [show (s : Int) + ((2 ^ 5 : Nat) : Int) = ((s + 2 ^ 5 : Nat) : Int) by omega] at F
    refine ⟨p_, pl, ys2, _, s + 2 ^ 5, rfl, hatC, hatC, TpA.e, by omega, by omega, ⟨tk, ok2⟩, fun p2 zs2 H4 n4 t4 => ?_⟩
    replace F := (F.newL n4).addP t4
    have z1 := rowsN_len t3
    have z2 := rowsN_len t4
    have w1 := fwF_len 5 s (ts.filter (meetB s (2 ^ 6)))
    have w2 := fwF_len 5 (s + 2 ^ 5) (ts.filter (meetB s (2 ^ 6)))
    have z3 : zs1.length + zs2.length ≤ sizeLine := by rw [sizeLine_eq]; omega
    repeat k_meth
    exact k _ _ _ SH.nwC (tups_app TpA.e TpA.e)
theorem D_fwithin7 (T : Txt K mg c R ) : Def P w K mg base CX0 13 "free_within" ["piece", "taken"] (sp_fw 7) := by
  have D_share := D_share (P := P) (w := w) (base := base) T
  refine def_of T.d_fwithin sc_fwithin (fun vs H Q E h => ?_) (fun _ _ _ _ _ _ us hl => match us, hl with | [_, _], _ => rfl) (fun f cdv A outer s H vs Q E hr h => ?_)
  · obtain ⟨q, l, ys, ts, s, rfl, _⟩ := h
    rfl
  · obtain ⟨q, l, ys, ts, s, rfl, hq, hl, tp, fw, s1, ok, k⟩ := h
    have nd := sc_fwithin.nd
    refine ⟨_, (pss_cons (ps_setc (i := 2) nd rfl (Or.inl rfl) (N := ["one", "piece"]) (nt := 1) (fr := [0]) (pi_list (pv 1)) (fun _ _ _ _ => (pg_name (i := 0) (show (["one", "piece"] : List Str).Nodup from by decide +kernel) rfl (Or.inl rfl))) (fun _ _ _ _ => pif_one (pt_val (pe_def D_share hr (pa_cons (pv 1) (pa_cons (pv 0) pa_nil))))) (fun _ _ _ _ => (pv 0)))
      (pss_cons (ps_if (pt_cmpR (op_eqE hr) (pv 2) (pe_lstA pa_nil) (nomark _)) (pss_one (ps_ret (pe_lstA (pa_cons (pv 0) pa_nil)))) pss_nil)
      (pss_cons (ps_if (pt_cmpR (op_inP (K := K) rfl hr) (pv 0) (pv 2) (by with_unfolding_all rfl)) (pss_one (ps_ret (pe_lstA pa_nil))) pss_nil)
      (pss_cons (ps_set (i := 3) nd rfl (Or.inl rfl) (pe_op op_fdiv (pe_ix ix_tup (pv 0) pe_int (fun _ _ => rfl)) pe_int))
      (pss_one (ps_ret (pe_op op_catA (pe_def (D_fwithin6 (P := P) (w := w) (base := base) T) hr (pa_cons (pe_tupA (pa_cons (pe_ix ix_tup (pv 0) pe_int (fun _ _ => rfl)) (pa_cons (pv 3) pa_nil))) (pa_cons (pv 2) pa_nil))) (pe_def (D_fwithin6 (P := P) (w := w) (base := base) T) hr (pa_cons (pe_tupA (pa_cons (pe_op op_add (pe_ix ix_tup (pv 0) pe_int (fun _ _ => rfl)) (pv 3)) (pa_cons (pv 3) pa_nil))) (pa_cons (pv 2) pa_nil)))))))))), ?_⟩
    clear nd D_share
    rw [show start ["piece", "taken", "sharing", "half"] [.ref q, .ref l] = [some (.ref q), some (.ref l), none, none] from rfl]
    try dsimp only [cx_K, cx_K2]
    have o_hq := Old.mk (M := []) hq nm0
    have o_hl := Old.mk (M := []) hl nm0
    have o_tp := OldP.mk tp
    have F : SH H [] H [] [] := SH.nil
    have yl := rowsN_len tp
    repeat k_meth
    refine comp_fprs (ws := ts) (pr := meetB s (2 ^ 7)) (fvs := [some (.ref q)]) SqA.e TpA.e (by omega) rfl (fun q2 w H' R hw s2 hq2 kk => ?_) fun pl ys2 H2 nw tp2 => ?_
    · have hq3 : H' q = some (.tup [.int (s : Nat), .int ((2 ^ 7 : Nat) : Int)]) := s2 _ _ hatC
      clear F
      have F : SH H' [] H' [] [] := SH.nil
      have o_q := Old.mk (M := []) hq3 nm0
      have o_q2 := Old.mk (M := []) hq2 nm0
      repeat k_meth
      rw [meet_cast]
      exact kk _ F.sm
    replace F := (F.newL nw).addP tp2
    have yl2 := rowsN_len tp2
    have fl2 := List.length_filter_le (meetB s (2 ^ 7)) ts
    obtain ⟨tk, ok⟩ := ok
    repeat k_meth
    by_cases e0 : ys2 = []
    · have e1 : ts.filter (meetB s (2 ^ 7)) = [] := by
        rw [e0] at yl2
        exact List.eq_nil_of_length_eq_zero yl2.symm
      have e2 : fwF 7 s ts = [(s, 2 ^ 7)] := by rw [fwF, if_pos e1]
      rw [e2] at k
      rw [decide_eq_true e0]
      repeat k_meth
      exact k _ _ _ SH.nwC ⟨rfl, fun j r e => by
        cases j with
        | zero => cases e; exact ⟨q, rfl, hatC⟩
        | succ j => simp [rowsN] at e⟩
    have e1 : ts.filter (meetB s (2 ^ 7)) ≠ [] := fun z => e0 (by rw [z] at yl2; exact List.eq_nil_of_length_eq_zero yl2)
    rw [decide_eq_false e0]
    repeat k_meth
    refine ⟨q, pl, ys2, s, 2 ^ 7, _, rfl, rfl, hatC, SqA.e, TpA.e, ?_⟩
    by_cases hm : (s, 2 ^ 7) ∈ ts.filter (meetB s (2 ^ 7))
    · rw [decide_eq_true hm]
      have e2 : fwF 7 s ts = [] := by rw [fwF, if_neg e1, if_pos hm]
      rw [e2] at k
      repeat k_meth
      exact k _ _ _ SH.nwC TupsAt.nil
    rw [decide_eq_false hm]
    have e2 : fwF 7 s ts = fwF 6 s (ts.filter (meetB s (2 ^ 7))) ++ fwF 6 (s + 2 ^ 6) (ts.filter (meetB s (2 ^ 7))) := fwF_two (k := 6) e1 hm
    rw [e2] at k
    obtain ⟨ok1, ok2⟩ := ok.filt.halves hm
    repeat k_meth
    rw [show ((2 ^ 7 : Nat) : Int) / 2 = ((2 ^ 6 : Nat) : Int) by decide]
    repeat k_meth
    refine ⟨p_, pl, ys2, _, s, rfl, hatC, hatC, TpA.e, by omega, by omega, ⟨tk, ok1⟩, fun p1 zs1 H3 n3 t3 => ?_⟩
    replace F := (F.newL n3).addP t3
    repeat k_meth
    rw [show (s : Int) + ((2 ^ 6 : Nat) : Int) = ((s + 2 ^ 6 : Nat) : Int) by omega] at F
    refine ⟨p_, pl, ys2, _, s + 2 ^ 6, rfl, hatC, hatC, TpA.e, by omega, by omega, ⟨tk, ok2⟩, fun p2 zs2 H4 n4 t4 => ?_⟩
    replace F := (F.newL n4).addP t4
    have z1 := rowsN_len t3
    have z2 := rowsN_len t4
    have w1 := fwF_len 6 s (ts.filter (meetB s (2 ^ 7)))
    have w2 := fwF_len 6 (s + 2 ^ 6) (ts.filter (meetB s (2 ^ 7)))
    have z3 : zs1.length + zs2.length ≤ sizeLine := by rw [sizeLine_eq]; omega
    repeat k_meth
    exact k _ _ _ SH.nwC (tups_app TpA.e TpA.e)
end
open M44
theorem tupsN_take {H : Hp} {ys : List V} {rs : List (List V)} (h : TupsAt H ys rs) (k : Nat) : TupsAt H (ys.take k) (rs.take k) := by
  refine ⟨by rw [List.length_take, List.length_take, h.1], fun j r e => ?_⟩
  rw [List.getElem?_take] at e ⊢
  split at e
  · rw [if_pos (by assumption)]
    exact h.2 j r e
  · cases e
theorem rowsN_take (ts : List (Nat × Nat)) (k : Nat) : rowsN (ts.take k) = (rowsN ts).take k := by unfold rowsN; rw [List.map_take]
theorem frF_snoc (ws ts : List (Nat × Nat)) (w : Nat × Nat) : frF (ws ++ [w]) ts = frF ws ts ++ fwF (Nat.log2 w.2) w.1 ts := by unfold frF; simp
theorem fr_len {n : Nat} {ts : List (Nat × Nat)} : ∀ {s : Nat} {ws : List (Nat × Nat)}, Ch n s ws → (frF ws ts).length ≤ n - s := by
  intro s ws h
  induction h with
  | nil _ => simp [frF]
  | @cons s e l h1 h2 h3 h4 _ ih =>
    have a := fwF_len e s ts
    unfold frF at ih ⊢
    rw [List.flatMap_cons, List.length_append]
    show (fwF (Nat.log2 (2 ^ e)) s ts).length + _ ≤ _
    rw [Nat.log2_two_pow]
    omega
theorem fr_take (ws ts : List (Nat × Nat)) (i : Nat) : (frF (ws.take i) ts).length ≤ (frF ws ts).length := by
  have : frF ws ts = frF (ws.take i) ts ++ frF (ws.drop i) ts := by unfold frF; rw [← List.flatMap_append, List.take_append_drop]
  rw [this, List.length_append]
  omega
def GoodT (n : Nat) (ts : List (Nat × Nat)) : Prop := ∀ (i : Nat) (w : Nat × Nat), ts[i]? = some w → Pc n w.1 w.2 ∧ ∀ t ∈ ts.take i, meetB w.1 w.2 t = false
theorem GoodT.pc {n : Nat} {ts : List (Nat × Nat)} (h : GoodT n ts) : ∀ t ∈ ts, Pc n t.1 t.2 := fun t ht => by
  obtain ⟨i, hi, e⟩ := List.getElem_of_mem ht
  exact (h i t (by rw [List.getElem?_eq_getElem hi, e])).1
def sp_fps : Sp := fun vs H Q _ => ∃ (n : Nat) (l : Addr) (ys : List V) (ts : List (Nat × Nat)), vs = [.int (n : Nat), .ref l] ∧ 16 ≤ n ∧ n ≤ 240 ∧ H l = some (.lst ys) ∧ TupsAt H ys (rowsN ts) ∧ (∀ t ∈ ts, Pc n t.1 t.2) ∧ ts.length ≤ 1000 ∧ ∀ p zs H', New H H' p (.lst zs) → TupsAt H' zs (rowsN (frF (whF n 0 n) ts)) → Q (.ref p) H'
def sp_pieces (K : PySem.W.Frag) (CF : Addr) : Sp := fun vs H Q E => ∃ (n : Nat) (l : Addr) (ys : List V) (ts : List (Nat × Nat)), vs = [.int (n : Nat), .ref l] ∧ 16 ≤ n ∧ n ≤ 240 ∧ H l = some (.lst ys) ∧ ys.length ≤ 1000 ∧ GoodT n ts ∧
  ((TupsAt H ys (rowsN ts) ∧ ∀ p zs H', New H H' p (.lst zs) → TupsAt H' zs (rowsN (frF (whF n 0 n) ts)) → Q (.ref p) H') ∨
   (∃ (q : Addr) (v u : V) (t1 t2 : String) (ya rest : List V), ys = ya ++ .ref q :: rest ∧ TupsAt H ya (rowsN ts) ∧ H q = some (.tup [v, u]) ∧ TyOf K H v (.type t1) ∧ TyOf K H u (.type t2) ∧ ¬ FpV n v u ts ∧ ∀ dx H', Same H H' → H' dx = some (dctO dx [("start", v), ("size", u)]) → E (.ref CF) (some dx) H'))
instance go_fps {H : Hp} {Q : VK} {E : XK} {n : Nat} {l : Addr} {ys : List V} {ts : List (Nat × Nat)} [h : Hat H l (.lst ys)] [t : TpA H ys (rowsN ts)] : Go (sp_fps [.int (n : Nat), .ref l] H Q E) (Sd ((16 ≤ n ∧ n ≤ 240) ∧ ts.length ≤ 1000) ((∀ t ∈ ts, Pc n t.1 t.2) ∧ ∀ p zs H', New H H' p (.lst zs) → TupsAt H' zs (rowsN (frF (whF n 0 n) ts)) → Q (.ref p) H')) := ⟨fun k => ⟨n, l, ys, ts, rfl, k.1.1.1, k.1.1.2, h.e, t.e, k.2.1, k.1.2, k.2.2⟩⟩
section
variable {P : Program} {w : World} {K : PySem.W.Frag} {mg : Str → Option Value} {base : Heap} {c : Nat → Addr} {R  : Addr}
theorem D_fpieces (T : Txt K mg c R ) : Def P w K mg base CX0 15 "free_pieces" ["many", "taken"] sp_fps := by
  have D_wholes := D_wholes (P := P) (w := w) (base := base) T
  refine def_of T.d_fpieces sc_fpieces (fun vs H Q E h => ?_) (fun _ _ _ _ _ _ us hl => match us, hl with | [_, _], _ => rfl) (fun f cdv A outer s H vs Q E hr h => ?_)
  · obtain ⟨n, l, ys, ts, rfl, _⟩ := h
    rfl
  · obtain ⟨n, l, ys, ts, rfl, n1, n2, hl, tp, hp, fw, k⟩ := h
    have nd := sc_fpieces.nd
    refine ⟨_, (pss_cons (ps_set (i := 2) nd rfl (Or.inl rfl) (pe_lstA pa_nil))
      (pss_cons (ps_for PassesOwn.never rfl (pi_list (pe_def D_wholes hr (pa_cons (pv 0) pa_nil))) (pg_name (i := 3) nd rfl (Or.inl rfl)) (pss_one (ps_expr (pe_extA (pv 2) (pe_ei (pe_def (D_fwithin0 (P := P) (w := w) (base := base) T) hr (pa_cons (pv 3) (pa_cons (pv 1) pa_nil))) (pe_ei (pe_def (D_fwithin1 (P := P) (w := w) (base := base) T) hr (pa_cons (pv 3) (pa_cons (pv 1) pa_nil))) (pe_ei (pe_def (D_fwithin2 (P := P) (w := w) (base := base) T) hr (pa_cons (pv 3) (pa_cons (pv 1) pa_nil))) (pe_ei (pe_def (D_fwithin3 (P := P) (w := w) (base := base) T) hr (pa_cons (pv 3) (pa_cons (pv 1) pa_nil))) (pe_ei (pe_def (D_fwithin4 (P := P) (w := w) (base := base) T) hr (pa_cons (pv 3) (pa_cons (pv 1) pa_nil))) (pe_ei (pe_def (D_fwithin5 (P := P) (w := w) (base := base) T) hr (pa_cons (pv 3) (pa_cons (pv 1) pa_nil))) (pe_ei (pe_def (D_fwithin6 (P := P) (w := w) (base := base) T) hr (pa_cons (pv 3) (pa_cons (pv 1) pa_nil))) (pe_def (D_fwithin7 (P := P) (w := w) (base := base) T) hr (pa_cons (pv 3) (pa_cons (pv 1) pa_nil))))))))))))))
      (pss_one (ps_ret (pv 2))))), ?_⟩
    clear nd D_wholes
    rw [show start ["many", "taken", "told", "whole"] [.int (n : Nat), .ref l] = [some (.int (n : Nat)), some (.ref l), none, none] from rfl]
    try dsimp only [cx_K, cx_K2]
    have o_hl := Old.mk (M := []) hl nm0
    have o_tp := OldP.mk tp
    have F : SH H [] H [] [] := SH.nil
    repeat k_meth
    rename_i td
    obtain ⟨wl, e_⟩ : ∃ q, q = p_ := ⟨_, rfl⟩
    subst e_
    have cf := wh_fine n2
    have wsl := ch_len cf
    have frl := fr_len (ts := ts) cf
    have yl := rowsN_len tp
    refine forL_by (xs := ys_) (fun i σ' H' => ∃ (o3 : Option V) (zs : List V), σ' = [some (.int (n : Nat)), some (.ref l), some (.ref td), o3] ∧ zs.length = (frF ((whF n 0 n).take i) ts).length ∧ SH H [] H' [(td, .lst zs), (wl, .lst ys_)] [.tps zs (rowsN (frF ((whF n 0 n).take i) ts)), .tps ys_ (rowsN (whF n 0 n))]) ⟨_, [], rfl, by simp [frF], (F.addP (ys := []) (rs := rowsN (frF ((whF n 0 n).take 0) ts)) (by simp only [List.take_zero, frF, List.flatMap_nil]; exact TupsAt.nil)).sub SbC.s (by simp)⟩ ?_ ?_ ?_
    · clear F
      rintro i σ' H' hi ⟨_, zs, rfl, zl, F⟩
      exact SqA.e
    · clear F
      rintro i v σ' H' hv ⟨_, zs, rfl, zl, F⟩
      obtain ⟨⟨s, z⟩, q, e1, rfl, e2⟩ := rowsN_at (H := H') (ws := whF n 0 n) TpA.e hv
      obtain ⟨e, he, m1, m2, m3⟩ := ch_at cf _ (List.mem_of_getElem? e1)
      simp only at he m1 m2 m3 e2
      subst he
      have e7 : e < 8 := pow_lt_of (by omega)
      have ok := ch_ok m1 m2 m3 hp
      have ft := fr_take (whF n 0 n) ts i
      have es : frF ((whF n 0 n).take (i + 1)) ts = frF ((whF n 0 n).take i) ts ++ fwF e s ts := by
        rw [List.take_add_one, e1, Option.toList, frF_snoc]
        show _ ++ fwF (Nat.log2 (2 ^ e)) s ts = _
        rw [Nat.log2_two_pow]
      have fl := fwF_len e s ts
      replace F := F.addT e2
      repeat k_meth
      obtain rfl | rfl | rfl | rfl | rfl | rfl | rfl | rfl : e = 0 ∨ e = 1 ∨ e = 2 ∨ e = 3 ∨ e = 4 ∨ e = 5 ∨ e = 6 ∨ e = 7 := by omega
      · refine ei_l ?_
        repeat k_meth
        refine ⟨q, l, ys, ts, s, rfl, hatC, hatC, TpA.e, fw, by omega, ⟨_, ok⟩, fun p1 zs1 H3 n3 t3 => ?_⟩
        have z1 := rowsN_len t3
        replace F := (F.newL n3).addP t3
        have z3 : zs.length + zs1.length ≤ sizeLine := by rw [sizeLine_eq]; omega
        repeat k_meth
        refine ⟨_, zs ++ zs1, rfl, by rw [es, List.length_append, List.length_append, zl, z1], ?_⟩
        have tt : TupsAt H_ (zs ++ zs1) (rowsN (frF ((whF n 0 n).take (i + 1)) ts)) := by rw [es]; exact tups_app TpA.e TpA.e
        exact (F.addP tt).sub SbC.s (by simp)
      · refine ei_r (ei_l ?_)
        repeat k_meth
        refine ⟨q, l, ys, ts, s, rfl, hatC, hatC, TpA.e, fw, by omega, ⟨_, ok⟩, fun p1 zs1 H3 n3 t3 => ?_⟩
        have z1 := rowsN_len t3
        replace F := (F.newL n3).addP t3
        have z3 : zs.length + zs1.length ≤ sizeLine := by rw [sizeLine_eq]; omega
        repeat k_meth
        refine ⟨_, zs ++ zs1, rfl, by rw [es, List.length_append, List.length_append, zl, z1], ?_⟩
        have tt : TupsAt H_ (zs ++ zs1) (rowsN (frF ((whF n 0 n).take (i + 1)) ts)) := by rw [es]; exact tups_app TpA.e TpA.e
        exact (F.addP tt).sub SbC.s (by simp)
      · refine ei_r (ei_r (ei_l ?_))
        repeat k_meth
        refine ⟨q, l, ys, ts, s, rfl, hatC, hatC, TpA.e, fw, by omega, ⟨_, ok⟩, fun p1 zs1 H3 n3 t3 => ?_⟩
        have z1 := rowsN_len t3
        replace F := (F.newL n3).addP t3
        have z3 : zs.length + zs1.length ≤ sizeLine := by rw [sizeLine_eq]; omega
        repeat k_meth
        refine ⟨_, zs ++ zs1, rfl, by rw [es, List.length_append, List.length_append, zl, z1], ?_⟩
        have tt : TupsAt H_ (zs ++ zs1) (rowsN (frF ((whF n 0 n).take (i + 1)) ts)) := by rw [es]; exact tups_app TpA.e TpA.e
        exact (F.addP tt).sub SbC.s (by simp)
      · refine ei_r (ei_r (ei_r (ei_l ?_)))
        repeat k_meth
        refine ⟨q, l, ys, ts, s, rfl, hatC, hatC, TpA.e, fw, by omega, ⟨_, ok⟩, fun p1 zs1 H3 n3 t3 => ?_⟩
        have z1 := rowsN_len t3
        replace F := (F.newL n3).addP t3
        have z3 : zs.length + zs1.length ≤ sizeLine := by rw [sizeLine_eq]; omega
        repeat k_meth
        refine ⟨_, zs ++ zs1, rfl, by rw [es, List.length_append, List.length_append, zl, z1], ?_⟩
        have tt : TupsAt H_ (zs ++ zs1) (rowsN (frF ((whF n 0 n).take (i + 1)) ts)) := by rw [es]; exact tups_app TpA.e TpA.e
        exact (F.addP tt).sub SbC.s (by simp)
      · refine ei_r (ei_r (ei_r (ei_r (ei_l ?_))))
        repeat k_meth
        refine ⟨q, l, ys, ts, s, rfl, hatC, hatC, TpA.e, fw, by omega, ⟨_, ok⟩, fun p1 zs1 H3 n3 t3 => ?_⟩
        have z1 := rowsN_len t3
        replace F := (F.newL n3).addP t3
        have z3 : zs.length + zs1.length ≤ sizeLine := by rw [sizeLine_eq]; omega
        repeat k_meth
        refine ⟨_, zs ++ zs1, rfl, by rw [es, List.length_append, List.length_append, zl, z1], ?_⟩
        have tt : TupsAt H_ (zs ++ zs1) (rowsN (frF ((whF n 0 n).take (i + 1)) ts)) := by rw [es]; exact tups_app TpA.e TpA.e
        exact (F.addP tt).sub SbC.s (by simp)
      · refine ei_r (ei_r (ei_r (ei_r (ei_r (ei_l ?_)))))
        repeat k_meth
        refine ⟨q, l, ys, ts, s, rfl, hatC, hatC, TpA.e, fw, by omega, ⟨_, ok⟩, fun p1 zs1 H3 n3 t3 => ?_⟩
        have z1 := rowsN_len t3
        replace F := (F.newL n3).addP t3
        have z3 : zs.length + zs1.length ≤ sizeLine := by rw [sizeLine_eq]; omega
        repeat k_meth
        refine ⟨_, zs ++ zs1, rfl, by rw [es, List.length_append, List.length_append, zl, z1], ?_⟩
        have tt : TupsAt H_ (zs ++ zs1) (rowsN (frF ((whF n 0 n).take (i + 1)) ts)) := by rw [es]; exact tups_app TpA.e TpA.e
        exact (F.addP tt).sub SbC.s (by simp)
      · refine ei_r (ei_r (ei_r (ei_r (ei_r (ei_r (ei_l ?_))))))
        repeat k_meth
        refine ⟨q, l, ys, ts, s, rfl, hatC, hatC, TpA.e, fw, by omega, ⟨_, ok⟩, fun p1 zs1 H3 n3 t3 => ?_⟩
        have z1 := rowsN_len t3
        replace F := (F.newL n3).addP t3
        have z3 : zs.length + zs1.length ≤ sizeLine := by rw [sizeLine_eq]; omega
        repeat k_meth
        refine ⟨_, zs ++ zs1, rfl, by rw [es, List.length_append, List.length_append, zl, z1], ?_⟩
        have tt : TupsAt H_ (zs ++ zs1) (rowsN (frF ((whF n 0 n).take (i + 1)) ts)) := by rw [es]; exact tups_app TpA.e TpA.e
        exact (F.addP tt).sub SbC.s (by simp)
      · refine ei_r (ei_r (ei_r (ei_r (ei_r (ei_r (ei_r ?_))))))
        repeat k_meth
        refine ⟨q, l, ys, ts, s, rfl, hatC, hatC, TpA.e, fw, by omega, ⟨_, ok⟩, fun p1 zs1 H3 n3 t3 => ?_⟩
        have z1 := rowsN_len t3
        replace F := (F.newL n3).addP t3
        have z3 : zs.length + zs1.length ≤ sizeLine := by rw [sizeLine_eq]; omega
        repeat k_meth
        refine ⟨_, zs ++ zs1, rfl, by rw [es, List.length_append, List.length_append, zl, z1], ?_⟩
        have tt : TupsAt H_ (zs ++ zs1) (rowsN (frF ((whF n 0 n).take (i + 1)) ts)) := by rw [es]; exact tups_app TpA.e TpA.e
        exact (F.addP tt).sub SbC.s (by simp)
    · clear F
      rintro σ' H' ⟨_, zs, rfl, zl, F⟩
      repeat k_meth
      have t9 : TupsAt H' zs (rowsN (frF ((whF n 0 n).take ys_.length) ts)) := TpA.e
      rw [l_, List.take_length] at t9
      exact k _ zs _ SH.nwC t9
end
open M44
section
variable {ys : List V}
theorem cut_take {i : Nat} : cutV ys none (some (i : Int)) = ys.take i := by
  unfold cutV
  rw [HT.sIx_nat]
  show (ys.drop 0).take (min i ys.length - 0) = _
  rw [List.drop_zero, Nat.sub_zero]
  by_cases h : i ≤ ys.length
  · rw [show min i ys.length = i by omega]
  · rw [List.take_of_length_le (by omega), List.take_of_length_le (by omega)]
end
section
variable {P : Program} {w : World} {K : PySem.W.Frag} {mg : Str → Option Value} {base : Heap} {c : Nat → Addr} {R  : Addr}
theorem D_pieces (T : Txt K mg c R ) : Def P w K mg base (CX1 P w) 17 "pieces_of" ["many", "taken"] (sp_pieces K (c 1)) := by
  have D_fpieces := D_fpieces (P := P) (w := w) (base := base) T
  have D_is_many := D_is_many (P := P) (w := w) (base := base) T
  have D_fpiece := D_fpiece (P := P) (w := w) (base := base) T
  refine def_ofX T.d_pieces sc_pieces (fun vs H Q E h => ?_) (fun _ _ _ _ _ _ us hl => match us, hl with | [_, _], _ => rfl) (fun f cdv A outer s H vs Q E hr h => ?_)
  · obtain ⟨n, l, ys, ts, rfl, _⟩ := h
    rfl
  · obtain ⟨n, l, ys, ts, rfl, n1, n2, hl, yl, gd, kk⟩ := h
    have nd := sc_pieces.nd
    refine ⟨_, (pss_cons (ps_if (pt_not (pt_val (pe_def D_is_many hr (pa_cons (pv 0) pa_nil)))) (pss_one (ps_raise T.k_NoMany (pe_ex1N T.e_NoMany (I_NoMany T.e_NoMany.S T.a_NoMany_many) hr (pa_cons (pv 0) pa_nil)))) pss_nil)
      (pss_cons (ps_for PassesOwn.leaving rfl (pi_range1 rfl T.n_range (pa_cons (pe_callB call_lenN rfl T.n_len boot_len (pa_cons (pv 1) pa_nil)) pa_nil)) (pg_name (i := 2) nd rfl (Or.inl rfl)) (pss_cons (ps_set (i := 3) nd rfl (Or.inl rfl) (pe_ix ix_list (pv 1) (pv 2) (fun _ _ => rfl)))
        (pss_one (ps_if (pt_not (pt_val (pe_def D_fpiece hr (pa_cons (pv 0) (pa_cons (pe_ix ix_tup (pv 3) pe_int (fun _ _ => rfl)) (pa_cons (pe_ix ix_tup (pv 3) pe_int (fun _ _ => rfl)) (pa_cons (pe_slice sl_listA (pv 1) po_none (po_some (pv 2))) pa_nil))))))) (pss_one (ps_raise T.k_NotFree (pe_ex2N T.e_NotFree (I_NotFree T.e_NotFree.S T.a_NotFree_start T.a_NotFree_size) hr (pa_cons (pe_ix ix_tup (pv 3) pe_int (fun _ _ => rfl)) (pa_cons (pe_ix ix_tup (pv 3) pe_int (fun _ _ => rfl)) pa_nil))))) pss_nil))))
      (PSs.nox (pss_one (ps_ret (pe_def D_fpieces hr (pa_cons (pv 0) (pa_cons (pv 1) pa_nil)))))))), ?_⟩
    clear nd D_fpieces D_is_many D_fpiece
    rw [show start ["many", "taken", "at", "row"] [.int (n : Nat), .ref l] = [some (.int (n : Nat)), some (.ref l), none, none] from rfl]
    try dsimp only [cx_K, cx_K2, cx_s0]
    have o_hl := Old.mk (M := []) hl nm0
    have F : SH H [] H [] [] := SH.nil
    rcases kk with ⟨tp, k⟩ | ⟨q, v, u, t1, t2, ya, rest, ey, tp, hq, ty, uy, nf, k⟩
    · have tl := rowsN_len tp
      replace F := F.addP tp
      repeat k_meth
      rw [decide_eq_true (show (16 : Int) ≤ (n : Int) by omega), decide_eq_true (show (n : Int) ≤ 240 by omega), show (true && true) = true from rfl]
      repeat k_meth
      rw [show ((ys.length : Nat) : Int).toNat = ys.length by omega]
      refine forR0_by (fun i σ' H' => ∃ (o2 o3 : Option V), σ' = [some (.int (n : Nat)), some (.ref l), o2, o3] ∧ SH H [] H' [] [.tps ys (rowsN ts)]) ⟨_, _, rfl, F⟩ ?_ ?_
      · clear F
        rintro i σ' H' hi ⟨_, _, rfl, F⟩
        obtain ⟨w, q, e1, e2, e3⟩ := rowsN_at (H := H') (ws := ts) TpA.e (i := i) (v := ys[i]) (List.getElem?_eq_getElem hi)
        have a1 : AtI ys (i : Int) (.ref q) := ⟨atI_nat (by rw [← e2]; exact List.getElem?_eq_getElem hi)⟩
        have gi := gd i w e1
        replace F := F.addT e3
        repeat k_meth
        rw [cut_take] at F
        have tk : TupsAt H_ (ys.take i) (rowsN (ts.take i)) := by rw [rowsN_take]; exact tupsN_take TpA.e i
        replace F := F.addP tk
        have fl : (ts.take i).length ≤ 1000 := by rw [List.length_take]; omega
        repeat k_meth
        rw [tr_T (fpv_iff.mpr gi)]
        repeat k_meth
        exact ⟨_, _, rfl, F.sub SbC.s (by simp)⟩
      · clear F
        rintro σ' H' ⟨_, _, rfl, F⟩
        have tl2 : ts.length ≤ 1000 := by omega
        repeat k_meth
        refine ⟨gd.pc, fun p zs H2 n3 t3 => ?_⟩
        have nn : New H H2 p (.lst zs) := ⟨F.sm.trans n3.s, n3.e, fun b u e => n3.n b u (F.sm _ _ e)⟩
        repeat k_meth
        exact k p zs H2 nn t3
    · have tl := rowsN_len tp
      have yal : ys.length = ya.length + (rest.length + 1) := by rw [ey, List.length_append, List.length_cons]
      have o_q := Old.mk (M := []) hq nm0
      have o_v : OldT K H [] v t1 := ⟨ty, fun _ _ z => by cases z⟩
      have o_u : OldT K H [] u t2 := ⟨uy, fun _ _ z => by cases z⟩
      replace F := F.addP tp
      repeat k_meth
      rw [decide_eq_true (show (16 : Int) ≤ (n : Int) by omega), decide_eq_true (show (n : Int) ≤ 240 by omega), show (true && true) = true from rfl]
      repeat k_meth
      rw [show ((ys.length : Nat) : Int).toNat = ys.length by omega]
      refine forR0_by (fun i σ' H' => ∃ (o2 o3 : Option V), σ' = [some (.int (n : Nat)), some (.ref l), o2, o3] ∧ i ≤ ya.length ∧ SH H [] H' [] [.tps ya (rowsN ts)]) ⟨_, _, rfl, by omega, F⟩ ?_ ?_
      · clear F
        rintro i σ' H' hi ⟨_, _, rfl, hle, F⟩
        have et : ys.take i = ya.take i := by rw [ey, List.take_append_of_le_length hle]
        have fl : (ts.take i).length ≤ 1000 := by rw [List.length_take]; omega
        by_cases hlt : i < ya.length
        · obtain ⟨w, q2, e1, e2, e3⟩ := rowsN_at (H := H') (ws := ts) TpA.e (i := i) (v := ya[i]) (List.getElem?_eq_getElem hlt)
          have a1 : AtI ys (i : Int) (.ref q2) := ⟨atI_nat (by rw [ey, List.getElem?_append_left hlt, ← e2]; exact List.getElem?_eq_getElem hlt)⟩
          have gi := gd i w e1
          replace F := F.addT e3
          repeat k_meth
          rw [cut_take, et] at F
          have tk : TupsAt H_ (ya.take i) (rowsN (ts.take i)) := by rw [rowsN_take]; exact tupsN_take TpA.e i
          replace F := F.addP tk
          repeat k_meth
          rw [tr_T (fpv_iff.mpr gi)]
          repeat k_meth
          exact ⟨_, _, rfl, by omega, F.sub SbC.s (by simp)⟩
        · have ei : i = ya.length := by omega
          have a1 : AtI ys (i : Int) (.ref q) := ⟨atI_nat (by rw [ey, ei, List.getElem?_append_right (Nat.le_refl _), Nat.sub_self]; rfl)⟩
          repeat k_meth
          rw [cut_take, et] at F
          have tk : TupsAt H_ (ya.take i) (rowsN (ts.take i)) := by rw [rowsN_take]; exact tupsN_take TpA.e i
          replace F := F.addP tk
          repeat k_meth
          rw [tr_F (by rw [List.take_of_length_le (by omega)]; exact nf)]
          repeat k_meth
          exact fun dx H' s e => k dx H' (F.sm.trans s) e
      · rintro σ' H' ⟨_, _, rfl, hle, _⟩
        omega
end
open M44
def sp_lcell (K : PySem.W.Frag) : Sp := fun vs H Q _ => ∃ (a : Addr) (ns : List Int) (m : Nat), vs = [.ref a, .int (m : Nat)] ∧ SqL K H a (ns.map V.int) ∧ ∀ c : Int, Q (.int c) H
def sp_ldraws : Sp := fun vs H Q _ => ∃ (cl : Int) (m : Nat), vs = [.int cl, .int (m : Nat)] ∧ m ≤ 100 ∧ ∀ (ds : List Int) (p : Addr) (H' : Hp), ds.length = m → (∀ d ∈ ds, 0 ≤ d ∧ d < 10 ^ 6) → New H H' p (.lst (ds.map V.int)) → Q (.ref p) H'
def sp_lmany : Sp := fun vs H Q _ => ∃ cl : Int, vs = [.int cl] ∧ ∀ (n : Nat) (H' : Hp), 16 ≤ n → n ≤ 240 → Same H H' → Q (.int (n : Nat)) H'
def sp_lrows : Sp := fun vs H Q _ => ∃ (l : Addr) (ys : List V) (ts : List (Nat × Nat)), vs = [.ref l] ∧ H l = some (.lst ys) ∧ TupsAt H ys (rowsN ts) ∧ ts.length ≤ 1000 ∧ ∀ H', Same H H' → Q (.bl true) H'
def sp_lmeets : Sp := fun vs H Q _ => ∃ (q l : Addr) (ys : List V) (ts : List (Nat × Nat)) (a b : Nat), vs = [.ref q, .ref l] ∧ H q = some (.tup [.int (a : Nat), .int (b : Nat)]) ∧ H l = some (.lst ys) ∧ TupsAt H ys (rowsN ts) ∧ ∀ H', Same H H' → Q (.bl (ts.any (meetB a b))) H'
def sp_ldrawn : Sp := fun vs H Q _ => ∃ (n : Nat) (cl : Int), vs = [.int (n : Nat), .int cl] ∧ 16 ≤ n ∧ n ≤ 240 ∧ ∀ (a b : Nat) (q : Addr) (H' : Hp), Pc n a b → Same H H' → H' q = some (.tup [.int (a : Nat), .int (b : Nat)]) → Q (.ref q) H'
theorem ds_snoc {ds : List Int} {d : Int} (h : ∀ d ∈ ds, 0 ≤ d ∧ d < 10 ^ 6) (hd : 0 ≤ d ∧ d < 10 ^ 6) : ∀ e ∈ ds ++ [d], 0 ≤ e ∧ e < 10 ^ 6 := by
  intro e he
  rcases List.mem_append.mp he with h1 | h1
  · exact h e h1
  · rw [List.mem_singleton.mp h1]
    exact hd
theorem mod6 (x : Int) : 0 ≤ x % 10 ^ 6 ∧ x % 10 ^ 6 < 10 ^ 6 := ⟨Int.emod_nonneg _ (by decide), Int.emod_lt_of_pos _ (by decide)⟩
theorem ints_snoc (ds : List Int) (z : Int) : ds.map V.int ++ [V.int z] = (ds ++ [z]).map V.int := by rw [List.map_append]; rfl
theorem any_take {α : Type} (f : α → Bool) (l : List α) (i : Nat) (w : α) (e : l[i]? = some w) : (l.take (i + 1)).any f = ((l.take i).any f || f w) := by
  rw [List.take_add_one, e, Option.toList, List.any_append]
  simp
section
variable {P : Program} {w : World} {K : PySem.W.Frag} {mg : Str → Option Value} {base : Heap} {c : Nat → Addr} {R  : Addr}
theorem D_lcell (T : Txt K mg c R ) : Def P w K mg base CX0 1 "_law_cell" ["_law_script", "_law_k"] (sp_lcell K) := by
  refine def_of T.d_lcell sc_lcell (fun vs H Q E h => ?_) (fun _ _ _ _ _ _ us hl => match us, hl with | [_, _], _ => rfl) (fun f cdv A outer s H vs Q E hr h => ?_)
  · obtain ⟨a, ns, m, rfl, _⟩ := h
    rfl
  · obtain ⟨a, ns, m, rfl, hS, k⟩ := h
    have nd := sc_lcell.nd
    refine ⟨_, (pss_cons (ps_if (pt_cmpR op_lt (pv 1) (pe_callB call_lenN rfl T.n_len boot_len (pa_cons (pv 0) pa_nil)) (nomark _)) (pss_one (ps_ret (pe_ix ix_list (pv 0) (pv 1) (fun _ _ => rfl)))) pss_nil)
      (pss_one (ps_ret pe_int))), ?_⟩
    clear nd 
    rw [show start ["_law_script", "_law_k"] [.ref a, .int (m : Nat)] = [some (.ref a), some (.int (m : Nat))] from rfl]
    try dsimp only [cx_K, cx_K2]
    have F : SH H [] H [] [] := SH.nil
    have o_hS := OldQ.mk (M := []) hS nm0
    repeat k_meth
    refine i_dec (fun h => ?_) (fun h => ?_)
    · obtain ⟨v, e, mm⟩ := atI_lt (xs := ns.map V.int) (i := (m : Int)) (by omega) h
      obtain ⟨c, _, rfl⟩ := List.mem_map.mp mm
      have a1 : AtI (ns.map V.int) (m : Int) (.int c) := ⟨e⟩
      repeat k_meth
      exact k c
    · repeat k_meth
      exact k _
theorem D_ldraws (T : Txt K mg c R ) : Def P w K mg base CX0 1 "_law_draws" ["_law_cell_here", "_law_many_here"] sp_ldraws := by
  refine def_of T.d_ldraws sc_ldraws (fun vs H Q E h => ?_) (fun _ _ _ _ _ _ us hl => match us, hl with | [_, _], _ => rfl) (fun f cdv A outer s H vs Q E hr h => ?_)
  · obtain ⟨cl, m, rfl, _⟩ := h
    rfl
  · obtain ⟨cl, m, rfl, hm, k⟩ := h
    have nd := sc_ldraws.nd
    refine ⟨_, (pss_cons (ps_set (i := 2) nd rfl (Or.inl rfl) (pe_lstA pa_nil))
      (pss_cons (ps_set (i := 3) nd rfl (Or.inl rfl) (pv 0))
      (pss_cons (ps_for PassesOwn.never rfl (pi_range1 rfl T.n_range (pa_cons (pv 1) pa_nil)) (pg_name (i := 4) nd rfl (Or.inl rfl)) (pss_one (ps_if (pt_cmpR op_ge (pv 0) (pe_op op_pow pe_int pe_int) (nomark _)) (pss_cons (ps_expr (pe_appendA (pv 2) (pe_op op_mod (pv 3) (pe_op op_pow pe_int pe_int))))
          (pss_one (ps_set (i := 3) nd rfl (Or.inl rfl) (pe_op op_fdiv (pv 3) (pe_op op_pow pe_int pe_int))))) (pss_cons (ps_set (i := 3) nd rfl (Or.inl rfl) (pe_op op_mod (pe_op op_add (pe_op op_add (pe_op op_mul (pv 3) pe_int) pe_int) (pv 4)) pe_int))
          (pss_one (ps_expr (pe_appendA (pv 2) (pe_op op_mod (pe_op op_fdiv (pe_op op_mod (pe_op op_mul (pv 3) pe_int) pe_int) pe_int) (pe_op op_pow pe_int pe_int)))))))))
      (pss_one (ps_ret (pv 2)))))), ?_⟩
    clear nd 
    rw [show start ["_law_cell_here", "_law_many_here", "_law_found", "_law_number", "_law_k"] [.int cl, .int (m : Nat)] = [some (.int cl), some (.int (m : Nat)), none, none, none] from rfl]
    try dsimp only [cx_K, cx_K2]
    have F : SH H [] H [] [] := SH.nil
    repeat k_meth
    obtain ⟨fd, e_⟩ : ∃ q, q = p_ := ⟨_, rfl⟩
    subst e_
    rw [show ((m : Nat) : Int).toNat = m by omega]
    refine forR0_by (fun i σ' H' => ∃ (num : Int) (ds : List Int) (o4 : Option V), σ' = [some (.int cl), some (.int (m : Nat)), some (.ref fd), some (.int num), o4] ∧ ds.length = i ∧ (∀ d ∈ ds, 0 ≤ d ∧ d < 10 ^ 6) ∧ SH H [] H' [(fd, .lst (ds.map V.int))] []) ⟨cl, [], _, rfl, rfl, (fun d h => by cases h), F⟩ ?_ ?_
    · clear F
      rintro i σ' H' hi ⟨num, ds, _, rfl, hl, hd, F⟩
      have hlen : (ds.map V.int).length < sizeLine := by rw [List.length_map, hl, sizeLine_eq]; omega
      repeat k_meth
      refine i_dec (fun h => ?_) (fun h => ?_)
      · repeat k_meth
        rw [show Int.toNat 6 = 6 from rfl, ints_snoc] at F
        exact ⟨_, _, _, rfl, by rw [List.length_append, hl]; rfl, ds_snoc hd (mod6 _), F⟩
      · repeat k_meth
        rw [show Int.toNat 6 = 6 from rfl, ints_snoc] at F
        exact ⟨_, _, _, rfl, by rw [List.length_append, hl]; rfl, ds_snoc hd (mod6 _), F⟩
    · clear F
      rintro σ' H' ⟨num, ds, _, rfl, hl, hd, F⟩
      repeat k_meth
      exact k ds _ _ hl hd SH.nwC
theorem D_lwhole (T : Txt K mg c R ) : Def P w K mg base CX0 1 "_law_whole" ["_law_thing"] (sp_whole K) := by
  refine def_of T.d_lwhole sc_lwhole (fun vs H Q E h => ?_) (fun _ _ _ _ _ _ us hl => match us, hl with | [_], _ => rfl) (fun f cdv A outer s H vs Q E hr h => ?_)
  · obtain ⟨x, n, rfl, _⟩ := h
    rfl
  · obtain ⟨x, n, rfl, ty, k⟩ := h
    have nd := sc_lwhole.nd
    refine ⟨_, (pss_one (ps_ret (pe_and (pe_callB call_isT rfl T.n_isinstance boot_isinstance (pa_cons (pv 0) (pa_cons (pe_ty (T := "int") rfl T.n_int boot_int) pa_nil))) (pe_one (pe_not (pe_callB call_isT rfl T.n_isinstance boot_isinstance (pa_cons (pv 0) (pa_cons (pe_ty (T := "bool") rfl T.n_bool boot_bool) pa_nil)))))))), ?_⟩
    clear nd 
    rw [show start ["_law_thing"] [x] = [some (x)] from rfl]
    try dsimp only [cx_K, cx_K2]
    have F : SH H [] H [] [] := SH.nil
    have o_x : OldT K H [] x n := ⟨ty, fun _ _ z => by cases z⟩
    repeat k_meth
    cases x with
    | int i =>
      rw [show isIB (.int i) = true from rfl]
      repeat k_meth
      exact k
    | bl b =>
      rw [show isIB (.bl b) = true from rfl]
      repeat k_meth
      exact k
    | _ =>
      first | rw [show isIB _ = false from rfl] | skip
      repeat k_meth
      exact k
theorem D_lrows (T : Txt K mg c R ) : Def P w K mg base CX0 2 "_law_rows" ["_law_told_here"] sp_lrows := by
  have D_lwhole := D_lwhole (P := P) (w := w) (base := base) T
  refine def_of T.d_lrows sc_lrows (fun vs H Q E h => ?_) (fun _ _ _ _ _ _ us hl => match us, hl with | [_], _ => rfl) (fun f cdv A outer s H vs Q E hr h => ?_)
  · obtain ⟨l, ys, ts, rfl, _⟩ := h
    rfl
  · obtain ⟨l, ys, ts, rfl, hl, tp, fw, k⟩ := h
    have nd := sc_lrows.nd
    refine ⟨_, (pss_cons (ps_if (pt_not (pt_val (pe_callB call_isT rfl T.n_isinstance boot_isinstance (pa_cons (pv 0) (pa_cons (pe_ty (T := "list") rfl T.n_list boot_list) pa_nil))))) (pss_one (ps_ret pe_bl)) pss_nil)
      (pss_cons (ps_for PassesOwn.never rfl (pi_list (pv 0)) (pg_name (i := 1) nd rfl (Or.inl rfl)) (pss_one (ps_if (PW.pt (pw_or (pt_not (pt_val (pe_callB call_isT rfl T.n_isinstance boot_isinstance (pa_cons (pv 1) (pa_cons (pe_ty (T := "tuple") rfl T.n_tuple boot_tuple) pa_nil))))) (pw_or (pt_cmpR op_ne (pe_callB call_lenN rfl T.n_len boot_len (pa_cons (pv 1) pa_nil)) pe_int (nomark _)) (pw_or (pt_not (pt_val (pe_def D_lwhole hr (pa_cons (pe_ix ix_tup (pv 1) pe_int (fun _ _ => rfl)) pa_nil)))) (pw_or1 (pt_not (pt_val (pe_def D_lwhole hr (pa_cons (pe_ix ix_tup (pv 1) pe_int (fun _ _ => rfl)) pa_nil))))))))) (pss_one (ps_ret pe_bl)) pss_nil)))
      (pss_one (ps_ret pe_bl)))), ?_⟩
    clear nd D_lwhole
    rw [show start ["_law_told_here", "_law_row"] [.ref l] = [some (.ref l), none] from rfl]
    try dsimp only [cx_K, cx_K2]
    have o_hl := Old.mk (M := []) hl nm0
    have o_tp := OldP.mk tp
    have F : SH H [] H [] [] := SH.nil
    repeat k_meth
    refine forL_by (xs := ys) (fun i σ' H' => ∃ o1 : Option V, σ' = [some (.ref l), o1] ∧ SH H [] H' [] [.tps ys (rowsN ts)]) ⟨_, rfl, F.addP tp⟩ ?_ ?_ ?_
    · clear F
      rintro i σ' H' hi ⟨_, rfl, F⟩
      exact SqA.e
    · clear F
      rintro i v σ' H' hv ⟨_, rfl, F⟩
      obtain ⟨w, q, e1, rfl, e2⟩ := rowsN_at (H := H') (ws := ts) TpA.e hv
      replace F := F.addT e2
      repeat k_meth
      rw [show isW (V.int (w.1 : Nat)) = true from rfl]
      repeat k_meth
      rw [show isW (V.int (w.2 : Nat)) = true from rfl]
      repeat k_meth
      exact ⟨_, rfl, F.sub SbC.s (by simp)⟩
    · clear F
      rintro σ' H' ⟨_, rfl, F⟩
      repeat k_meth
      exact k _ F.sm
theorem D_lmany (T : Txt K mg c R ) : Def P w K mg base CX0 2 "_law_many" ["_law_cell_here"] sp_lmany := by
  have D_ldraws := D_ldraws (P := P) (w := w) (base := base) T
  refine def_of T.d_lmany sc_lmany (fun vs H Q E h => ?_) (fun _ _ _ _ _ _ us hl => match us, hl with | [_], _ => rfl) (fun f cdv A outer s H vs Q E hr h => ?_)
  · obtain ⟨cl, rfl, _⟩ := h
    rfl
  · obtain ⟨cl, rfl, k⟩ := h
    have nd := sc_lmany.nd
    refine ⟨_, (pss_cons (ps_asg (pe_def D_ldraws hr (pa_cons (pv 0) (pa_cons pe_int pa_nil))) (pg_lst rfl (pgs_cons (pg_name (i := 1) nd rfl (Or.inl rfl)) (pgs_cons (pg_name (i := 2) nd rfl (Or.inl rfl)) pgs_nil))))
      (pss_cons (ps_if (pt_cmpR op_gt (pe_op op_mod (pv 1) pe_int) pe_int (nomark _)) (pss_one (ps_ret (pe_op op_add pe_int (pe_op op_mod (pv 2) pe_int)))) pss_nil)
      (pss_one (ps_ret (pe_op op_add pe_int (pe_op op_mod (pv 2) pe_int)))))), ?_⟩
    clear nd D_ldraws
    rw [show start ["_law_cell_here", "_law_first", "_law_second"] [.int cl] = [some (.int cl), none, none] from rfl]
    try dsimp only [cx_K, cx_K2]
    have F : SH H [] H [] [] := SH.nil
    repeat k_meth
    refine ⟨cl, 2, rfl, by decide, fun ds p H1 hl hd n1 => ?_⟩
    obtain ⟨a, b, rfl⟩ : ∃ a b, ds = [a, b] := match ds, hl with | [a, b], _ => ⟨a, b, rfl⟩
    have ha := hd a (by simp)
    have hb := hd b (by simp)
    replace F := F.newL n1
    repeat k_meth
    refine go_l2 (a := .int a) (b := .int b) (σ' := [some (.int cl), some (.int a), some (.int b)]) (SqL.of n1.e) rfl ?_
    repeat k_meth
    refine i_dec (fun h => ?_) (fun h => ?_)
    · repeat k_meth
      rw [show (16 : Int) + b % 49 = ((16 + b % 49).toNat : Int) by omega]
      exact k _ _ (by omega) (by omega) F.sm
    · repeat k_meth
      rw [show (16 : Int) + b % 225 = ((16 + b % 225).toNat : Int) by omega]
      exact k _ _ (by omega) (by omega) F.sm
theorem D_lmeets (T : Txt K mg c R ) : Def P w K mg base CX0 1 "_law_meets" ["_law_row", "_law_rows_here"] sp_lmeets := by
  refine def_of T.d_lmeets sc_lmeets (fun vs H Q E h => ?_) (fun _ _ _ _ _ _ us hl => match us, hl with | [_, _], _ => rfl) (fun f cdv A outer s H vs Q E hr h => ?_)
  · obtain ⟨q, l, ys, ts, a, b, rfl, _⟩ := h
    rfl
  · obtain ⟨q, l, ys, ts, a, b, rfl, hq, hl, tp, k⟩ := h
    have nd := sc_lmeets.nd
    refine ⟨_, (pss_cons (ps_for PassesOwn.never rfl (pi_list (pv 1)) (pg_tup rfl (pgs_cons (pg_name (i := 2) nd rfl (Or.inl rfl)) (pgs_cons (pg_name (i := 3) nd rfl (Or.inl rfl)) pgs_nil))) (pss_one (ps_if (PW.pt (pw_and (pt_cmpR op_lt (pe_ix ix_tup (pv 0) pe_int (fun _ _ => rfl)) (pe_op op_add (pv 2) (pv 3)) (nomark _)) (pw_and1 (pt_cmpR op_lt (pv 2) (pe_op op_add (pe_ix ix_tup (pv 0) pe_int (fun _ _ => rfl)) (pe_ix ix_tup (pv 0) pe_int (fun _ _ => rfl))) (nomark _))))) (pss_one (ps_ret pe_bl)) pss_nil)))
      (pss_one (ps_ret pe_bl))), ?_⟩
    clear nd 
    rw [show start ["_law_row", "_law_rows_here", "_law_start", "_law_size"] [.ref q, .ref l] = [some (.ref q), some (.ref l), none, none] from rfl]
    try dsimp only [cx_K, cx_K2]
    have o_hq := Old.mk (M := []) hq nm0
    have o_hl := Old.mk (M := []) hl nm0
    have o_tp := OldP.mk tp
    have F : SH H [] H [] [] := SH.nil
    have yl := rowsN_len tp
    repeat k_meth
    refine forL_by (xs := ys) (fun i σ' H' => ∃ o2 o3 : Option V, σ' = [some (.ref q), some (.ref l), o2, o3] ∧ (ts.take i).any (meetB a b) = false ∧ SH H [] H' [] [.tps ys (rowsN ts)]) ⟨_, _, rfl, rfl, F.addP tp⟩ ?_ ?_ ?_
    · clear F
      rintro i σ' H' hi ⟨_, _, rfl, _, F⟩
      exact SqA.e
    · clear F
      rintro i v σ' H' hv ⟨_, _, rfl, nm_, F⟩
      obtain ⟨w, q2, e1, rfl, e2⟩ := rowsN_at (H := H') (ws := ts) TpA.e hv
      replace F := F.addT e2
      have at_ := any_take (meetB a b) ts i w e1
      rw [nm_, Bool.false_or] at at_
      have yes : meetB a b w = true → ts.any (meetB a b) = true := fun h => List.any_eq_true.mpr ⟨w, List.mem_of_getElem? e1, h⟩
      repeat k_meth
      refine i_dec (fun h => ?_) (fun h => ?_)
      · repeat k_meth
        refine i_dec (fun h2 => ?_) (fun h2 => ?_)
        · repeat k_meth
          rw [yes (meetB_iff.mpr ⟨by omega, by omega⟩)] at k
          exact k _ F.sm
        · repeat k_meth
          exact ⟨_, _, rfl, by rw [at_, Bool.eq_false_iff]; exact fun z => by have := meetB_iff.mp z; omega, F.sub SbC.s (by simp)⟩
      · repeat k_meth
        exact ⟨_, _, rfl, by rw [at_, Bool.eq_false_iff]; exact fun z => by have := meetB_iff.mp z; omega, F.sub SbC.s (by simp)⟩
    · clear F
      rintro σ' H' ⟨_, _, rfl, nm_, F⟩
      rw [yl, List.take_length] at nm_
      repeat k_meth
      rw [nm_] at k
      exact k _ F.sm
theorem D_ldrawn (T : Txt K mg c R ) : Def P w K mg base CX0 2 "_law_drawn" ["_law_many_here", "_law_cell_here"] sp_ldrawn := by
  have D_ldraws := D_ldraws (P := P) (w := w) (base := base) T
  refine def_of T.d_ldrawn sc_ldrawn (fun vs H Q E h => ?_) (fun _ _ _ _ _ _ us hl => match us, hl with | [_, _], _ => rfl) (fun f cdv A outer s H vs Q E hr h => ?_)
  · obtain ⟨n, cl, rfl, _⟩ := h
    rfl
  · obtain ⟨n, cl, rfl, n1, n2, k⟩ := h
    have nd := sc_ldrawn.nd
    refine ⟨_, (pss_cons (ps_asg (pe_def D_ldraws hr (pa_cons (pv 1) (pa_cons pe_int pa_nil))) (pg_lst rfl (pgs_cons (pg_name (i := 2) nd rfl (Or.inl rfl)) (pgs_cons (pg_name (i := 3) nd rfl (Or.inl rfl)) pgs_nil))))
      (pss_cons (ps_set (i := 4) nd rfl (Or.inl rfl) (pe_op op_shl pe_int (pe_op op_mod (pv 2) pe_int)))
      (pss_cons (ps_while PassesOwn.never (pt_cmpR op_gt (pv 4) (pv 0) (nomark _)) (pss_one (ps_set (i := 4) nd rfl (Or.inl rfl) (pe_op op_fdiv (pv 4) pe_int))))
      (pss_one (ps_ret (pe_tupA (pa_cons (pe_op op_mul (pe_op op_mod (pv 3) (pe_op op_fdiv (pv 0) (pv 4))) (pv 4)) (pa_cons (pv 4) pa_nil)))))))), ?_⟩
    clear nd D_ldraws
    rw [show start ["_law_many_here", "_law_cell_here", "_law_first", "_law_second", "_law_size"] [.int (n : Nat), .int cl] = [some (.int (n : Nat)), some (.int cl), none, none, none] from rfl]
    try dsimp only [cx_K, cx_K2]
    have F : SH H [] H [] [] := SH.nil
    repeat k_meth
    refine ⟨cl, 2, rfl, by decide, fun ds p H1 hl hd nw => ?_⟩
    obtain ⟨a, b, rfl⟩ : ∃ a b, ds = [a, b] := match ds, hl with | [a, b], _ => ⟨a, b, rfl⟩
    have ha := hd a (by simp)
    have hb := hd b (by simp)
    replace F := F.newL nw
    refine go_l2 (a := .int a) (b := .int b) (σ' := [some (.int (n : Nat)), some (.int cl), some (.int a), some (.int b), none]) (SqL.of nw.e) rfl ?_
    obtain ⟨bn, rfl⟩ : ∃ bn : Nat, b = (bn : Int) := ⟨b.toNat, by omega⟩
    repeat k_meth
    obtain ⟨k0, hk0, e0⟩ : ∃ k0 : Nat, k0 ≤ 7 ∧ (1 : Int) * 2 ^ (a % 8).toNat = ((2 ^ k0 : Nat) : Int) := ⟨(a % 8).toNat, by omega, by simp⟩
    rw [e0]
    refine while_m (fun m σ' H' => ∃ j : Nat, σ' = [some (.int (n : Nat)), some (.int cl), some (.int a), some (.int (bn : Nat)), some (.int ((2 ^ j : Nat) : Int))] ∧ m = j ∧ j ≤ 7 ∧ H1 = H') ⟨_, k0, rfl, rfl, hk0, rfl⟩ ?_
    rintro j σ' H' ⟨_, rfl, rfl, hj, e⟩
    subst e
    have hpw : 2 ^ j ≤ 2 ^ 7 := Nat.pow_le_pow_right (by decide) hj
    have pj := pos2 j
    repeat k_meth
    refine i_dec (fun h => ?_) (fun h => ?_)
    · refine ⟨fun σ' H' => ∃ m', m' < _ ∧ _, fun σ' H' h => h, ?_⟩
      obtain ⟨i, rfl⟩ : ∃ i, j = i + 1 := ⟨j - 1, by
        cases j with
        | zero => simp at h; omega
        | succ j => rfl⟩
      have e2 := succ2 i
      repeat k_meth
      rw [show ((2 ^ (i + 1) : Nat) : Int) / 2 = ((2 ^ i : Nat) : Int) by omega]
      exact ⟨i, by omega, i, rfl, rfl, by omega, rfl⟩
    · have hle : 2 ^ j ≤ n := by omega
      have hq : 0 < n / 2 ^ j := Nat.div_pos hle pj
      have hq2 : n / 2 ^ j ≤ 240 := Nat.le_trans (Nat.div_le_self _ _) n2
      have hr2 : bn % (n / 2 ^ j) < n / 2 ^ j := Nat.mod_lt _ hq
      have hmul : bn % (n / 2 ^ j) * 2 ^ j + 2 ^ j ≤ n := by
        have := Nat.div_mul_le_self n (2 ^ j)
        calc bn % (n / 2 ^ j) * 2 ^ j + 2 ^ j = (bn % (n / 2 ^ j) + 1) * 2 ^ j := by rw [Nat.add_mul, Nat.one_mul]
          _ ≤ n / 2 ^ j * 2 ^ j := Nat.mul_le_mul_right _ hr2
          _ ≤ n := this
      have pc : Pc n (bn % (n / 2 ^ j) * 2 ^ j) (2 ^ j) := ⟨j, rfl, Nat.mul_mod_left _ _, hmul⟩
      have c1 : (n : Int) / ((2 ^ j : Nat) : Int) = ((n / 2 ^ j : Nat) : Int) := rfl
      have c2 : (bn : Int) % ((n / 2 ^ j : Nat) : Int) = ((bn % (n / 2 ^ j) : Nat) : Int) := rfl
      have c3 : ((bn % (n / 2 ^ j) : Nat) : Int) * ((2 ^ j : Nat) : Int) = ((bn % (n / 2 ^ j) * 2 ^ j : Nat) : Int) := rfl
      generalize hw : 2 ^ j = wj at *
      generalize hd : n / wj = dq at *
      generalize hm : bn % dq = mr at *
      generalize hx : mr * wj = xr at *
      repeat k_meth
      rw [c1, c2, c3] at F
      exact k xr wj p_ _ pc F.sm hatC
end
open M44
def sp_lpiece (K : PySem.W.Frag) : Sp := fun vs H Q _ => ∃ (n : Nat) (v u : V) (t1 t2 : String), vs = [.int (n : Nat), v, u] ∧ 16 ≤ n ∧ n ≤ 240 ∧ TyOf K H v (.type t1) ∧ TyOf K H u (.type t2) ∧ ∀ H', Same H H' → Q (.bl (tr (PcV n v u))) H'
theorem isW_int {v : V} (h : isW v = true) : ∃ i, v = .int i := by
  cases v with
  | int i => exact ⟨i, rfl⟩
  | _ => simp [isW] at h
theorem pcv_W {n : Nat} {v u : V} (h : PcV n v u) : isW v = true ∧ isW u = true := by
  obtain ⟨a, b, rfl, rfl, _⟩ := h
  exact ⟨rfl, rfl⟩
theorem eq_two {x y z w : Int} : eqDt (.tup ([x, y].map Dt.int)) (.tup ([z, w].map Dt.int)) = (decide (x = z) && decide (y = w)) := by
  simp only [List.map_cons, List.map_nil, eqDt, eqDts, Bool.and_true]
  rfl
theorem way_end {n a b lo e : Nat} (h1 : lo ≤ a) (h2 : a < lo + 2 ^ e) (h3 : lo % 2 ^ e = 0) (h4 : 2 ^ e ≤ b) (hn : a + b ≤ n) (hk : ∀ k, b = 2 ^ k → a % 2 ^ k = 0 → k ≤ e) : ((lo, 2 ^ e) = (a, b)) ↔ Pc n a b := by
  constructor
  · intro h
    obtain ⟨rfl, rfl⟩ : lo = a ∧ 2 ^ e = b := by simpa using h
    exact ⟨e, rfl, h3, hn⟩
  · rintro ⟨k, rfl, ha, _⟩
    have k1 := hk k rfl ha
    have k2 := pow_le_of h4
    have ke : k = e := by omega
    subst ke
    have : lo = a := by
      rcases Nat.lt_or_ge lo a with c | c
      · have := apart_mul h3 ha c
        omega
      · omega
    rw [this]
section
variable {P : Program} {w : World} {K : PySem.W.Frag} {mg : Str → Option Value} {base : Heap} {c : Nat → Addr} {R  : Addr}
theorem D_lpiece (T : Txt K mg c R ) : Def P w K mg base CX0 2 "_law_piece" ["_law_many_here", "_law_start", "_law_size"] (sp_lpiece K) := by
  have D_lwhole := D_lwhole (P := P) (w := w) (base := base) T
  refine def_of T.d_lpiece sc_lpiece (fun vs H Q E h => ?_) (fun _ _ _ _ _ _ us hl => match us, hl with | [_, _, _], _ => rfl) (fun f cdv A outer s H vs Q E hr h => ?_)
  · obtain ⟨n, v, u, t1, t2, rfl, _⟩ := h
    rfl
  · obtain ⟨n, v, u, t1, t2, rfl, n1, n2, ty, uy, k⟩ := h
    have nd := sc_lpiece.nd
    refine ⟨_, (pss_cons (ps_if (PW.pt (pw_or (pt_not (pt_val (pe_def D_lwhole hr (pa_cons (pv 1) pa_nil)))) (pw_or (pt_not (pt_val (pe_def D_lwhole hr (pa_cons (pv 2) pa_nil)))) (pw_or (pt_cmpR op_lt (pv 1) pe_int (nomark _)) (pw_or (pt_cmpR op_lt (pv 2) pe_int (nomark _)) (pw_or1 (pt_cmpR op_gt (pe_op op_add (pv 1) (pv 2)) (pv 0) (nomark _)))))))) (pss_one (ps_ret pe_bl)) pss_nil)
      (pss_cons (ps_set (i := 3) nd rfl (Or.inl rfl) pe_int)
      (pss_cons (ps_set (i := 4) nd rfl (Or.inl rfl) pe_int)
      (pss_cons (ps_while PassesOwn.never (PW.pt (pw_or (pt_cmpR op_le (pe_op op_add (pv 3) (pv 4)) (pv 1) (nomark _)) (pw_or1 (pt_cmpR op_gt (pv 4) (pe_op op_sub (pv 0) (pv 3)) (nomark _))))) (pss_cons (ps_if (pt_cmpR op_le (pv 4) (pe_op op_sub (pv 0) (pv 3)) (nomark _)) (pss_one (ps_set (i := 3) nd rfl (Or.inl rfl) (pe_op op_add (pv 3) (pv 4)))) pss_nil)
        (pss_one (ps_set (i := 4) nd rfl (Or.inl rfl) (pe_op op_fdiv (pv 4) pe_int)))))
      (pss_cons (ps_while PassesOwn.never (pt_cmpR op_gt (pv 4) (pv 2) (nomark _)) (pss_cons (ps_set (i := 4) nd rfl (Or.inl rfl) (pe_op op_fdiv (pv 4) pe_int))
        (pss_one (ps_if (pt_cmpR op_ge (pv 1) (pe_op op_add (pv 3) (pv 4)) (nomark _)) (pss_one (ps_set (i := 3) nd rfl (Or.inl rfl) (pe_op op_add (pv 3) (pv 4)))) pss_nil))))
      (pss_one (ps_ret (pe_cmpR (op_eq_dN hr) (pe_tupA (pa_cons (pv 3) (pa_cons (pv 4) pa_nil))) (pe_tupA (pa_cons (pv 1) (pa_cons (pv 2) pa_nil))) (nomark _))))))))), ?_⟩
    clear nd D_lwhole
    rw [show start ["_law_many_here", "_law_start", "_law_size", "_law_low", "_law_wide"] [.int (n : Nat), v, u] = [some (.int (n : Nat)), some (v), some (u), none, none] from rfl]
    try dsimp only [cx_K, cx_K2]
    have F : SH H [] H [] [] := SH.nil
    have o_v : OldT K H [] v t1 := ⟨ty, fun _ _ z => by cases z⟩
    have o_u : OldT K H [] u t2 := ⟨uy, fun _ _ z => by cases z⟩
    repeat k_meth
    by_cases e1 : isW v = true
    · rw [e1]
      repeat k_meth
      by_cases e2 : isW u = true
      · rw [e2]
        obtain ⟨i, rfl⟩ := isW_int e1
        obtain ⟨j, rfl⟩ := isW_int e2
        have no : ¬ (0 ≤ i ∧ 1 ≤ j ∧ i + j ≤ (n : Int)) → tr (PcV n (.int i) (.int j)) = false := fun z => tr_F fun ⟨c, d, x1, x2, kk, y1, y2, y3⟩ => z (by
          have h5 := V.int.inj x1
          have h6 := V.int.inj x2
          have h7 := pos2 kk
          subst y1
          omega)
        repeat k_meth
        refine i_dec (fun h => ?_) (fun h => ?_)
        · repeat k_meth
          rw [no (by omega)] at k
          exact k _ F.sm
        repeat k_meth
        refine i_dec (fun h2 => ?_) (fun h2 => ?_)
        · repeat k_meth
          rw [no (by omega)] at k
          exact k _ F.sm
        repeat k_meth
        refine i_dec (fun h3 => ?_) (fun h3 => ?_)
        · repeat k_meth
          rw [no (by omega)] at k
          exact k _ F.sm
        obtain ⟨a, rfl⟩ : ∃ a : Nat, i = (a : Int) := ⟨i.toNat, by omega⟩
        obtain ⟨b, rfl⟩ : ∃ b : Nat, j = (b : Int) := ⟨j.toNat, by omega⟩
        clear no
        repeat k_meth
        refine while_m (fun m σ' H' => ∃ (lo e : Nat), σ' = [some (.int (n : Nat)), some (.int (a : Nat)), some (.int (b : Nat)), some (.int (lo : Nat)), some (.int ((2 ^ e : Nat) : Int))] ∧ e = m ∧ lo % 2 ^ (e + 1) = 0 ∧ n < lo + 2 ^ (e + 1) ∧ lo ≤ a ∧ e ≤ 7 ∧ H = H') ⟨7, 0, 7, rfl, rfl, rfl, by omega, by omega, by omega, rfl⟩ ?_
        clear F
        rintro m σ' H' ⟨lo, e, rfl, rfl, g1, g2, g3, g4, e_⟩
        subst e_
        have F : SH H [] H [] [] := SH.nil
        have pe := pos2 e
        have se := succ2 e
        have p7 : 2 ^ e ≤ 2 ^ 7 := Nat.pow_le_pow_right (by decide) g4
        repeat k_meth
        refine i_dec (fun h4 => ?_) (fun h4 => ?_)
        · repeat k_meth
          obtain ⟨e, rfl⟩ : ∃ f, e = f + 1 := ⟨e - 1, by
            cases e with
            | zero => simp only [Nat.pow_zero, Nat.zero_add, Nat.pow_one] at *; omega
            | succ e => rfl⟩
          have s2 := succ2 e
          refine ⟨fun σ' H' => ∃ m', m' < _ ∧ _, fun σ' H' h => h, ?_⟩
          repeat k_meth
          rw [show ((2 ^ (e + 1) : Nat) : Int) / 2 = ((2 ^ e : Nat) : Int) by omega, show (lo : Int) + ((2 ^ (e + 1) : Nat) : Int) = ((lo + 2 ^ (e + 1) : Nat) : Int) by omega]
          exact ⟨e, by omega, lo + 2 ^ (e + 1), e, rfl, rfl, add_mod0 (mod_le g1 (Nat.le_succ _)) (Nat.mod_self _), by omega, by omega, by omega, rfl⟩
        repeat k_meth
        refine i_dec (fun h5 => ?_) (fun h5 => ?_)
        · repeat k_meth
          obtain ⟨e, rfl⟩ : ∃ f, e = f + 1 := ⟨e - 1, by
            cases e with
            | zero => simp only [Nat.pow_zero, Nat.zero_add, Nat.pow_one] at *; omega
            | succ e => rfl⟩
          have s2 := succ2 e
          refine ⟨fun σ' H' => ∃ m', m' < _ ∧ _, fun σ' H' h => h, ?_⟩
          repeat k_meth
          rw [show ((2 ^ (e + 1) : Nat) : Int) / 2 = ((2 ^ e : Nat) : Int) by omega]
          exact ⟨e, by omega, lo, e, rfl, rfl, mod_le g1 (Nat.le_succ _), by omega, by omega, by omega, rfl⟩
        repeat k_meth
        have hk : ∀ kk, b = 2 ^ kk → a % 2 ^ kk = 0 → kk ≤ e := fun kk x1 x2 => by
          subst x1
          have pk := pos2 kk
          have hb2 : a + 2 ^ kk ≤ n := by have h9 := h3; generalize 2 ^ kk = zz at *; omega
          have := in_whole g1 (by omega) g2 x2 hb2 (by omega) (by omega)
          exact pow_le_of (by omega)
        refine while_m (fun m σ' H' => ∃ (lo e : Nat), σ' = [some (.int (n : Nat)), some (.int (a : Nat)), some (.int (b : Nat)), some (.int (lo : Nat)), some (.int ((2 ^ e : Nat) : Int))] ∧ e = m ∧ lo % 2 ^ e = 0 ∧ a < lo + 2 ^ e ∧ lo ≤ a ∧ e ≤ 7 ∧ (∀ kk, b = 2 ^ kk → a % 2 ^ kk = 0 → kk ≤ e) ∧ H = H') ⟨e, lo, e, rfl, rfl, mod_le g1 (Nat.le_succ _), by omega, g3, g4, hk, rfl⟩ ?_
        clear F hk g1 g2 g3 g4 h4 h5 pe se p7
        rintro m σ' H' ⟨lo, e, rfl, rfl, g1, g2, g3, g4, hk, e_⟩
        subst e_
        have F : SH H [] H [] [] := SH.nil
        have pe := pos2 e
        have p7 : 2 ^ e ≤ 2 ^ 7 := Nat.pow_le_pow_right (by decide) g4
        repeat k_meth
        refine i_dec (fun h4 => ?_) (fun h4 => ?_)
        · obtain ⟨e, rfl⟩ : ∃ f, e = f + 1 := ⟨e - 1, by
            cases e with
            | zero => simp only [Nat.pow_zero, Nat.zero_add, Nat.pow_one] at *; omega
            | succ e => rfl⟩
          have s2 := succ2 e
          have hk2 : ∀ kk, b = 2 ^ kk → a % 2 ^ kk = 0 → kk ≤ e := fun kk e1 e2 => by
            have : 2 ^ kk < 2 ^ (e + 1) := by omega
            have := pow_lt_of this
            omega
          have m1 := mod_le g1 (Nat.le_succ e)
          refine ⟨fun σ' H' => ∃ m', m' < _ ∧ _, fun σ' H' h => h, ?_⟩
          repeat k_meth
          rw [show ((2 ^ (e + 1) : Nat) : Int) / 2 = ((2 ^ e : Nat) : Int) by omega]
          refine i_dec (fun h5 => ?_) (fun h5 => ?_)
          · repeat k_meth
            rw [show (lo : Int) + ((2 ^ e : Nat) : Int) = ((lo + 2 ^ e : Nat) : Int) by omega]
            exact ⟨e, by omega, lo + 2 ^ e, e, rfl, rfl, add_mod0 m1 (Nat.mod_self _), by omega, by omega, by omega, hk2, rfl⟩
          · repeat k_meth
            exact ⟨e, by omega, lo, e, rfl, rfl, m1, by omega, by omega, by omega, hk2, rfl⟩
        · have we := way_end (n := n) (b := b) g3 g2 g1 (by omega) (by omega) hk
          repeat k_meth
          refine ⟨_, _, rep_tints (ns := [(lo : Int), ((2 ^ e : Nat) : Int)]) (SqT.of hatC), rep_tints (ns := [(a : Int), (b : Int)]) (SqT.of hatC), by simp [depD, depDs], ?_⟩
          rw [eq_two]
          rw [show tr (PcV n (.int (a : Nat)) (.int (b : Nat))) = (decide ((lo : Int) = (a : Int)) && decide (((2 ^ e : Nat) : Int) = (b : Int))) by
            rw [Bool.eq_iff_iff, tr_iff, pcv_iff, ← we, Bool.and_eq_true, decide_eq_true_iff, decide_eq_true_iff, Prod.mk.injEq]
            omega] at k
          exact k _ F.sm
      · have e2 : isW u = false := by simpa using e2
        rw [e2]
        rw [tr_F (fun z => by rw [(pcv_W z).2] at e2; cases e2)] at k
        repeat k_meth
        exact k _ F.sm
    · have e1 : isW v = false := by simpa using e1
      rw [e1]
      rw [tr_F (fun z => by rw [(pcv_W z).1] at e1; cases e1)] at k
      repeat k_meth
      exact k _ F.sm
end
open M44
def clF (tk : Nat → Bool) (n : Nat) : List Int := (List.range n).map fun c => if tk c = true then 1 else 0
theorem clF_len (tk : Nat → Bool) (n : Nat) : (clF tk n).length = n := by simp [clF]
theorem clF_at {tk : Nat → Bool} {n c : Nat} (h : c < n) : (clF tk n)[c]? = some (if tk c = true then 1 else 0) := by
  unfold clF
  rw [List.getElem?_map, List.getElem?_range h]
  rfl
theorem clF_zero (n : Nat) : (clF (fun _ => false) n).map V.int = List.replicate n (V.int 0) := by
  unfold clF
  rw [List.map_map]
  apply List.ext_getElem
  · simp
  · intro i h1 h2
    simp
theorem clF_put {tk : Nat → Bool} {n a b : Nat} (h : a + b ≤ n) : ((clF tk n).map V.int).take a ++ List.replicate b (V.int 1) ++ ((clF tk n).map V.int).drop (a + b) = (clF (fun c => tk c || (decide (a ≤ c) && decide (c < a + b))) n).map V.int := by
  apply List.ext_getElem?
  intro c
  have ll := clF_len tk n
  by_cases hc : c < n
  · rw [List.getElem?_map, clF_at hc, Option.map_some]
    by_cases h1 : c < a
    · rw [List.append_assoc, List.getElem?_append_left (by rw [List.length_take, List.length_map, ll]; omega), List.getElem?_take, if_pos h1, List.getElem?_map, clF_at hc, Option.map_some, decide_eq_false (by omega), Bool.false_and, Bool.or_false]
    · by_cases h2 : c < a + b
      · rw [List.append_assoc, List.getElem?_append_right (by rw [List.length_take, List.length_map, ll]; omega), List.length_take, List.length_map, ll, List.getElem?_append_left (by rw [List.length_replicate]; omega), List.getElem?_replicate, if_pos (by omega), decide_eq_true (by omega), decide_eq_true h2, Bool.true_and, Bool.or_true, if_pos rfl]
      · rw [List.getElem?_append_right (by rw [List.length_append, List.length_take, List.length_replicate, List.length_map, ll]; omega), List.length_append, List.length_take, List.length_replicate, List.length_map, ll, List.getElem?_drop, List.getElem?_map, show a + b + (c - (min a n + b)) = c by omega, clF_at hc, Option.map_some, decide_eq_false (p := c < a + b) h2, Bool.and_false, Bool.or_false]
  · rw [List.getElem?_eq_none (by rw [List.length_append, List.length_append, List.length_take, List.length_replicate, List.length_drop, List.length_map, ll]; omega), List.getElem?_eq_none (by rw [List.length_map, clF_len]; omega)]
theorem sum_nn : ∀ (xs : List Int), (∀ x ∈ xs, 0 ≤ x) → 0 ≤ xs.sum ∧ (xs.sum = 0 ↔ ∀ x ∈ xs, x = 0)
  | [], _ => by simp
  | x :: xs, h => by
    obtain ⟨a, b⟩ := sum_nn xs fun y hy => h y (List.mem_cons_of_mem _ hy)
    have c := h x List.mem_cons_self
    rw [List.sum_cons]
    refine ⟨by omega, fun e y hy => ?_, fun e => ?_⟩
    · rcases List.mem_cons.mp hy with rfl | hy
      · omega
      · exact b.mp (by omega) y hy
    · have := e x List.mem_cons_self
      have := b.mpr fun y hy => e y (List.mem_cons_of_mem _ hy)
      omega
theorem clF_01 {tk : Nat → Bool} {n p z : Nat} : ∀ x ∈ ((clF tk n).drop p).take z, 0 ≤ x ∧ x ≤ 1 := fun x hx => by
  have hx := List.mem_of_mem_drop (List.mem_of_mem_take hx)
  unfold clF at hx
  obtain ⟨c, _, rfl⟩ := List.mem_map.mp hx
  split <;> decide
theorem clF_sum {tk : Nat → Bool} {n p z : Nat} (h : p + z ≤ n) : (((clF tk n).drop p).take z).sum = 0 ↔ ∀ c, p ≤ c → c < p + z → tk c = false := by
  rw [(sum_nn _ fun x hx => (clF_01 x hx).1).2]
  constructor
  · intro hx c h1 h2
    have e : (((clF tk n).drop p).take z)[c - p]? = some (if tk c = true then 1 else 0) := by
      rw [List.getElem?_take, if_pos (by omega), List.getElem?_drop, show p + (c - p) = c by omega, clF_at (by omega)]
    have := hx _ (List.mem_of_getElem? e)
    cases ht : tk c with
    | false => rfl
    | true => rw [ht, if_pos rfl] at this; cases this
  · intro hc x hx
    obtain ⟨i, hi, e⟩ := List.getElem_of_mem hx
    have hl : i < z := by rw [List.length_take] at hi; omega
    have e2 : (((clF tk n).drop p).take z)[i]? = some x := by rw [← e]; exact List.getElem?_eq_getElem hi
    rw [List.getElem?_take, if_pos hl, List.getElem?_drop, clF_at (by omega), hc (p + i) (by omega) (by omega)] at e2
    simpa using e2.symm
theorem cut_mid {xs : List V} {a b : Nat} (h : a ≤ b) (hb : b ≤ xs.length) : cutV xs (some (a : Int)) (some (b : Int)) = (xs.drop a).take (b - a) := by
  unfold cutV
  rw [HT.sIx_nat, HT.sIx_nat, show min a xs.length = a by omega, show min b xs.length = b by omega]
theorem tk_step {ts : List (Nat × Nat)} {i : Nat} {w : Nat × Nat} (e : ts[i]? = some w) : (fun c => tkF (ts.take i) c || (decide (w.1 ≤ c) && decide (c < w.1 + w.2))) = tkF (ts.take (i + 1)) := by
  funext c
  unfold tkF
  exact (any_take _ ts i w e).symm
def sp_lfree : Sp := fun vs H Q _ => ∃ (n : Nat) (l : Addr) (ys : List V) (ts : List (Nat × Nat)), vs = [.int (n : Nat), .ref l] ∧ 16 ≤ n ∧ n ≤ 240 ∧ H l = some (.lst ys) ∧ TupsAt H ys (rowsN ts) ∧ (∀ t ∈ ts, Pc n t.1 t.2) ∧ ∀ p zs H', New H H' p (.lst zs) → TupsAt H' zs (rowsN (frF (whF n 0 n) ts)) → Q (.ref p) H'
section
variable {P : Program} {w : World} {K : PySem.W.Frag} {mg : Str → Option Value} {base : Heap} {c : Nat → Addr} {R  : Addr}
theorem D_lfree (T : Txt K mg c R ) : Def P w K mg base CX0 1 "_law_free" ["_law_many_here", "_law_taken"] sp_lfree := by
  refine def_of T.d_lfree sc_lfree (fun vs H Q E h => ?_) (fun _ _ _ _ _ _ us hl => match us, hl with | [_, _], _ => rfl) (fun f cdv A outer s H vs Q E hr h => ?_)
  · obtain ⟨n, l, ys, ts, rfl, _⟩ := h
    rfl
  · obtain ⟨n, l, ys, ts, rfl, n1, n2, hl, tp, hp, k⟩ := h
    have nd := sc_lfree.nd
    refine ⟨_, (pss_cons (ps_set (i := 2) nd rfl (Or.inl rfl) (pe_op op_repA (pe_lstA (pa_cons pe_int pa_nil)) (pv 0)))
      (pss_cons (ps_for PassesOwn.never rfl (pi_list (pv 1)) (pg_tup rfl (pgs_cons (pg_name (i := 3) nd rfl (Or.inl rfl)) (pgs_cons (pg_name (i := 4) nd rfl (Or.inl rfl)) pgs_nil))) (pss_one (ps_asg (pe_op op_repA (pe_lstA (pa_cons pe_int pa_nil)) (pv 4)) (pg_slc2 (pv 2) (pv 3) (pe_op op_add (pv 3) (pv 4))))))
      (pss_cons (ps_set (i := 5) nd rfl (Or.inl rfl) (pe_lstA pa_nil))
      (pss_cons (ps_set (i := 6) nd rfl (Or.inl rfl) pe_int)
      (pss_cons (ps_while PassesOwn.never (pt_cmpR op_lt (pv 6) (pv 0) (nomark _)) (pss_cons (ps_set (i := 4) nd rfl (Or.inl rfl) pe_int)
        (pss_cons (ps_while PassesOwn.never (PW.pt (pw_and (pt_cmpR op_eq (pe_op op_mod (pv 6) (pe_op op_mul pe_int (pv 4))) pe_int (nomark _)) (pw_and (pt_cmpR op_le (pe_op op_add (pv 6) (pe_op op_mul pe_int (pv 4))) (pv 0) (nomark _)) (pw_and1 (pt_cmpR op_eq (pe_callB (call_sumL rfl) rfl T.n_sum boot_sum (pa_cons (pe_slice sl_listA (pv 2) (po_some (pv 6)) (po_some (pe_op op_add (pv 6) (pe_op op_mul pe_int (pv 4))))) pa_nil)) pe_int (nomark _)))))) (pss_one (ps_set (i := 4) nd rfl (Or.inl rfl) (pe_op op_mul pe_int (pv 4)))))
        (pss_cons (ps_if (pt_cmpR op_eq (pe_ix ix_list (pv 2) (pv 6) (fun _ _ => rfl)) pe_int (nomark _)) (pss_one (ps_expr (pe_appendA (pv 5) (pe_tupA (pa_cons (pv 6) (pa_cons (pv 4) pa_nil)))))) pss_nil)
        (pss_one (ps_set (i := 6) nd rfl (Or.inl rfl) (pe_op op_add (pv 6) (pv 4))))))))
      (pss_one (ps_ret (pv 5)))))))), ?_⟩
    clear nd 
    rw [show start ["_law_many_here", "_law_taken", "_law_cells", "_law_start", "_law_size", "_law_found", "_law_place"] [.int (n : Nat), .ref l] = [some (.int (n : Nat)), some (.ref l), none, none, none, none, none] from rfl]
    try dsimp only [cx_K, cx_K2]
    have o_hl := Old.mk (M := []) hl nm0
    have o_tp := OldP.mk tp
    have F : SH H [] H [] [] := SH.nil
    have yl := rowsN_len tp
    repeat k_meth
    obtain ⟨cp, e_⟩ : ∃ q, q = p_ := ⟨_, rfl⟩
    subst e_
    rw [← clF_zero, show (fun _ : Nat => false) = tkF (ts.take 0) from rfl] at F
    refine forL_by (xs := ys) (fun i σ' H' => ∃ o3 o4 : Option V, σ' = [some (.int (n : Nat)), some (.ref l), some (.ref cp), o3, o4, none, none] ∧ SH H [] H' [(cp, .lst ((clF (tkF (ts.take i)) n).map V.int))] [.tps ys (rowsN ts)]) ⟨_, _, rfl, (F.addP (tp.same F.sm)).sub SbC.s (by simp)⟩ ?_ ?_ ?_
    · clear F
      rintro i σ' H' hi ⟨_, _, rfl, F⟩
      exact SqA.e
    · clear F
      rintro i v σ' H' hv ⟨_, _, rfl, F⟩
      obtain ⟨w, q, e1, rfl, e2⟩ := rowsN_at (H := H') (ws := ts) TpA.e hv
      obtain ⟨kk, y1, y2, y3⟩ := hp w (List.mem_of_getElem? e1)
      have le1 : w.1 + w.2 ≤ n := by rw [y1]; exact y3
      have ll : ((clF (tkF (ts.take i)) n).map V.int).length = n := by rw [List.length_map, clF_len]
      have lr : (List.replicate w.2 (V.int 1)).length = w.2 := List.length_replicate
      replace F := F.addT e2
      repeat k_meth
      rw [Int.toNat_natCast, show ((w.1 : Int) + (w.2 : Int)).toNat = w.1 + w.2 by omega, clF_put le1, tk_step e1] at F
      exact ⟨_, _, rfl, F.sub SbC.s (by simp)⟩
    · clear F
      rintro σ' H' ⟨_, _, rfl, F⟩
      rw [yl, List.take_length] at F
      repeat k_meth
      obtain ⟨fd, e_⟩ : ∃ q, q = p_ := ⟨_, rfl⟩
      subst e_
      refine while_m (fun m σ' H' => ∃ (o3 o4 : Option V) (pl : Nat) (L : List (Nat × Nat)) (zs : List V), σ' = [some (.int (n : Nat)), some (.ref l), some (.ref cp), o3, o4, some (.ref fd), some (.int (pl : Nat))] ∧ n - pl = m ∧ pl ≤ n ∧ L.length ≤ pl ∧ zs.length = L.length ∧ (∀ l', Gr (tkF ts) n pl l' → Gr (tkF ts) n 0 (L ++ l')) ∧ SH H [] H' [(fd, .lst zs), (cp, .lst ((clF (tkF ts) n).map V.int))] [.tps zs (rowsN L)]) ⟨n, _, _, 0, [], [], rfl, rfl, by omega, by simp, rfl, fun l' h => h, (F.addP (ys := []) (rs := rowsN []) TupsAt.nil).sub SbC.s (by simp)⟩ ?_
      clear F
      rintro m σ' H' ⟨_, _, pl, L, zs, rfl, rfl, g1, g2, g3, g4, F⟩
      repeat k_meth
      refine i_dec (fun h => ?_) (fun h => ?_)
      · refine ⟨fun σ' H' => ∃ m', m' < _ ∧ _, fun σ' H' h => h, ?_⟩
        repeat k_meth
        rename_i o3_ _
        refine while_m (fun m σ' H' => ∃ (k2 : Nat), σ' = [some (.int (n : Nat)), some (.ref l), some (.ref cp), o3_, some (.int ((2 ^ k2 : Nat) : Int)), some (.ref fd), some (.int (pl : Nat))] ∧ n - 2 ^ k2 = m ∧ 2 ^ k2 ≤ n ∧ (k2 = 0 ∨ C (tkF ts) n pl k2) ∧ SH H [] H' [(fd, .lst zs), (cp, .lst ((clF (tkF ts) n).map V.int))] [.tps zs (rowsN L)]) ⟨_, 0, rfl, rfl, by simp only [Nat.pow_zero]; omega, .inl rfl, F⟩ ?_
        clear F
        rintro m2 σ' H' ⟨k2, rfl, rfl, hk1, hk, F⟩
        have pk := pos2 k2
        have sk := succ2 k2
        have ll : ((clF (tkF ts) n).map V.int).length = n := by rw [List.length_map, clF_len]
        repeat k_meth
        refine i_dec (fun h1 => ?_) (fun h1 => ?_)
        · repeat k_meth
          refine i_dec (fun h2 => ?_) (fun h2 => ?_)
          · repeat k_meth
            rw [show (pl : Int) + 2 * ((2 ^ k2 : Nat) : Int) = ((pl + 2 ^ (k2 + 1) : Nat) : Int) by omega, cut_mid (by omega) (by rw [ll]; omega), show pl + 2 ^ (k2 + 1) - pl = 2 ^ (k2 + 1) by omega, ← List.map_drop, ← List.map_take] at F
            refine ⟨p_, ((clF (tkF ts) n).drop pl).take (2 ^ (k2 + 1)), rfl, SqA.e, fun x hx => by have := clF_01 x hx; omega, by rw [List.length_take]; omega, ?_⟩
            repeat k_meth
            have sz := clF_sum (tk := tkF ts) (n := n) (p := pl) (z := 2 ^ (k2 + 1)) (by omega)
            refine i_dec (fun h3 => ?_) (fun h3 => ?_)
            · refine ⟨fun σ' H' => ∃ m', m' < _ ∧ _, fun σ' H' h => h, ?_⟩
              repeat k_meth
              rw [show 2 * ((2 ^ k2 : Nat) : Int) = ((2 ^ (k2 + 1) : Nat) : Int) by omega]
              exact ⟨n - 2 ^ (k2 + 1), by omega, k2 + 1, rfl, rfl, by omega, .inr ⟨by rw [show 2 * ((2 ^ k2 : Nat) : Int) = ((2 ^ (k2 + 1) : Nat) : Int) by omega] at h1; omega, by omega, sz.mp h3⟩, F.sub SbC.s (by simp)⟩
            · have nC : ¬ C (tkF ts) n pl (k2 + 1) := fun z => h3 (sz.mpr z.2.2)
              repeat k_meth
              have a1 : AtI ((clF (tkF ts) n).map V.int) (pl : Int) (.int (if tkF ts pl = true then 1 else 0)) := ⟨atI_nat (by rw [List.getElem?_map, clF_at (by omega)]; rfl)⟩
              cases ht : tkF ts pl with
              | true =>
                rw [ht, if_pos rfl] at a1
                have k0 : k2 = 0 := by
                  rcases hk with h9 | h9
                  · exact h9
                  · have := h9.2.2 pl (Nat.le_refl _) (by omega)
                    rw [ht] at this
                    cases this
                subst k0
                repeat k_meth
                rw [show (pl : Int) + ((2 ^ 0 : Nat) : Int) = ((pl + 1 : Nat) : Int) by simp]
                exact ⟨n - (pl + 1), by omega, _, _, pl + 1, L, zs, rfl, rfl, by omega, by omega, g3, fun l' h' => g4 l' (.skip (by omega) ht h'), F.sub SbC.s (by simp)⟩
              | false =>
                rw [ht, if_neg (by decide)] at a1
                have hC : C (tkF ts) n pl k2 := by
                  rcases hk with rfl | h9
                  · exact ⟨Nat.mod_one _, by simp only [Nat.pow_zero]; omega, fun c c1 c2 => by rw [show c = pl by simp only [Nat.pow_zero] at c2; omega]; exact ht⟩
                  · exact h9
                have le2 := hC.2.1
                have zl2 : zs.length < sizeLine := by rw [sizeLine_eq]; omega
                repeat k_meth
                rw [show (pl : Int) + ((2 ^ k2 : Nat) : Int) = ((pl + 2 ^ k2 : Nat) : Int) by omega]
                have tt : TupsAt H_ (zs ++ [.ref p_]) (rowsN (L ++ [(pl, 2 ^ k2)])) := by
                  rw [rowsN_snoc]
                  exact TupsAt.snoc TpA.e hatC
                exact ⟨n - (pl + 2 ^ k2), by omega, _, _, pl + 2 ^ k2, L ++ [(pl, 2 ^ k2)], zs ++ [.ref p_], rfl, rfl, by omega, by rw [List.length_append]; simp only [List.length_cons, List.length_nil]; omega, by rw [List.length_append, List.length_append, g3]; rfl, fun l' h' => by rw [List.append_assoc]; exact g4 _ (.out (by omega) hC nC h'), (F.addP tt).sub SbC.s (by simp)⟩
          · have nC : ¬ C (tkF ts) n pl (k2 + 1) := fun z => by have := z.2.1; omega
            repeat k_meth
            have a1 : AtI ((clF (tkF ts) n).map V.int) (pl : Int) (.int (if tkF ts pl = true then 1 else 0)) := ⟨atI_nat (by rw [List.getElem?_map, clF_at (by omega)]; rfl)⟩
            cases ht : tkF ts pl with
            | true =>
              rw [ht, if_pos rfl] at a1
              have k0 : k2 = 0 := by
                rcases hk with h9 | h9
                · exact h9
                · have := h9.2.2 pl (Nat.le_refl _) (by omega)
                  rw [ht] at this
                  cases this
              subst k0
              repeat k_meth
              rw [show (pl : Int) + ((2 ^ 0 : Nat) : Int) = ((pl + 1 : Nat) : Int) by simp]
              exact ⟨n - (pl + 1), by omega, _, _, pl + 1, L, zs, rfl, rfl, by omega, by omega, g3, fun l' h' => g4 l' (.skip (by omega) ht h'), F.sub SbC.s (by simp)⟩
            | false =>
              rw [ht, if_neg (by decide)] at a1
              have hC : C (tkF ts) n pl k2 := by
                rcases hk with rfl | h9
                · exact ⟨Nat.mod_one _, by simp only [Nat.pow_zero]; omega, fun c c1 c2 => by rw [show c = pl by simp only [Nat.pow_zero] at c2; omega]; exact ht⟩
                · exact h9
              have le2 := hC.2.1
              have zl2 : zs.length < sizeLine := by rw [sizeLine_eq]; omega
              repeat k_meth
              rw [show (pl : Int) + ((2 ^ k2 : Nat) : Int) = ((pl + 2 ^ k2 : Nat) : Int) by omega]
              have tt : TupsAt H_ (zs ++ [.ref p_]) (rowsN (L ++ [(pl, 2 ^ k2)])) := by
                rw [rowsN_snoc]
                exact TupsAt.snoc TpA.e hatC
              exact ⟨n - (pl + 2 ^ k2), by omega, _, _, pl + 2 ^ k2, L ++ [(pl, 2 ^ k2)], zs ++ [.ref p_], rfl, rfl, by omega, by rw [List.length_append]; simp only [List.length_cons, List.length_nil]; omega, by rw [List.length_append, List.length_append, g3]; rfl, fun l' h' => by rw [List.append_assoc]; exact g4 _ (.out (by omega) hC nC h'), (F.addP tt).sub SbC.s (by simp)⟩
        · have nC : ¬ C (tkF ts) n pl (k2 + 1) := fun z => h1 (by
            have := z.1
            rw [show 2 * ((2 ^ k2 : Nat) : Int) = ((2 ^ (k2 + 1) : Nat) : Int) by omega]
            omega)
          repeat k_meth
          have a1 : AtI ((clF (tkF ts) n).map V.int) (pl : Int) (.int (if tkF ts pl = true then 1 else 0)) := ⟨atI_nat (by rw [List.getElem?_map, clF_at (by omega)]; rfl)⟩
          cases ht : tkF ts pl with
          | true =>
            rw [ht, if_pos rfl] at a1
            have k0 : k2 = 0 := by
              rcases hk with h9 | h9
              · exact h9
              · have := h9.2.2 pl (Nat.le_refl _) (by omega)
                rw [ht] at this
                cases this
            subst k0
            repeat k_meth
            rw [show (pl : Int) + ((2 ^ 0 : Nat) : Int) = ((pl + 1 : Nat) : Int) by simp]
            exact ⟨n - (pl + 1), by omega, _, _, pl + 1, L, zs, rfl, rfl, by omega, by omega, g3, fun l' h' => g4 l' (.skip (by omega) ht h'), F.sub SbC.s (by simp)⟩
          | false =>
            rw [ht, if_neg (by decide)] at a1
            have hC : C (tkF ts) n pl k2 := by
              rcases hk with rfl | h9
              · exact ⟨Nat.mod_one _, by simp only [Nat.pow_zero]; omega, fun c c1 c2 => by rw [show c = pl by simp only [Nat.pow_zero] at c2; omega]; exact ht⟩
              · exact h9
            have le2 := hC.2.1
            have zl2 : zs.length < sizeLine := by rw [sizeLine_eq]; omega
            repeat k_meth
            rw [show (pl : Int) + ((2 ^ k2 : Nat) : Int) = ((pl + 2 ^ k2 : Nat) : Int) by omega]
            have tt : TupsAt H_ (zs ++ [.ref p_]) (rowsN (L ++ [(pl, 2 ^ k2)])) := by
              rw [rowsN_snoc]
              exact TupsAt.snoc TpA.e hatC
            exact ⟨n - (pl + 2 ^ k2), by omega, _, _, pl + 2 ^ k2, L ++ [(pl, 2 ^ k2)], zs ++ [.ref p_], rfl, rfl, by omega, by rw [List.length_append]; simp only [List.length_cons, List.length_nil]; omega, by rw [List.length_append, List.length_append, g3]; rfl, fun l' h' => by rw [List.append_assoc]; exact g4 _ (.out (by omega) hC nC h'), (F.addP tt).sub SbC.s (by simp)⟩
      · have ge := g4 [] (.done (by omega))
        rw [List.append_nil] at ge
        have ef := gr_free hp (wh_fine n2) ge
        repeat k_meth
        have t9 : TupsAt H' zs (rowsN L) := TpA.e
        rw [ef] at t9
        exact k _ zs _ SH.nwC t9
end
open M44
@[irreducible] def thS (d : PyData) : Str := d.shown
theorem rep_th {K : PySem.W.Frag} {H : Hp} {Q : VK} {v : V} {d : PyData} (h : ThD H v d) (k : Q (.str (thS d)) H) : rRepK K [v] H Q := by
  unfold thS at k
  exact ⟨v, d, rfl, fun X hX pins σ st u I r => h.shows pins σ st u I r, h.shm.sh, Nat.le_trans h.shm.dp (by decide), Nat.le_trans h.shm.ln (by rw [sizeLine_eq]; omega), k⟩
instance (priority := low) go_rth {K : PySem.W.Frag} {H : Hp} {Q : VK} {v : V} {d : PyData} [h : ThA H v d] : Go (rRepK K [v] H Q) (Q (.str (thS d)) H) := ⟨fun k => rep_th h.e k⟩
theorem th_int {H : Hp} {i : Int} (h : i.natAbs < 10 ^ 40) : ThD H (.int i) (.int i) := by
  have : NmA i := ⟨h⟩
  exact (inferInstance : ThA H (.int i) (.int i)).e
theorem go_l4 {K : PySem.W.Frag} {H : Hp} {p : Addr} {a b c d : V} {σ σ' : L2.St} {i0 i1 i2 i3 : Nat} {R : L2.St → Hp → Prop} (hp : SqL K H p [a, b, c, d]) (e : (((σ.set i0 (some a)).set i1 (some b)).set i2 (some c)).set i3 (some d) = σ') (h : R σ' H) : gLst K 4 (gCons (gName i0) (gCons (gName i1) (gCons (gName i2) (gCons (gName i3) gNil)))) (.ref p) σ H R :=
  ⟨p, _, rfl, hp, rfl, _, _, rfl, _, _, rfl, _, _, rfl, _, _, rfl, rfl, by rw [e]; exact h⟩
theorem th_pair {H : Hp} {p : Addr} (h : H p = some (.tup [.int 0, .int 1])) : ThD H (.ref p) (.tuple ([V.int 0, V.int 1].map flD)) := .tup h (fun v hv => by
  simp only [List.mem_cons, List.not_mem_nil, or_false] at hv
  rcases hv with rfl | rfl <;> rfl) ⟨by decide +kernel, by decide +kernel, by decide +kernel⟩
theorem th_one {H : Hp} {p : Addr} (h : H p = some (.lst [.int 1])) : ThD H (.ref p) (.list ([V.int 1].map flD)) := .lst h (fun v hv => by
  simp only [List.mem_cons, List.not_mem_nil, or_false] at hv
  rcases hv with rfl
  rfl) ⟨by decide +kernel, by decide +kernel, by decide +kernel⟩
instance tx_1 : TxA (Str.ofString "1") := tx_of (by decide +kernel) (by decide +kernel)
instance tx_2 : TxA (Str.ofString "2") := tx_of (by decide +kernel) (by decide +kernel)
def sp_lspoil : Sp := fun vs H Q _ => ∃ (l : Addr) (n : Nat) (cl : Int) (ys : List V) (ts : List (Nat × Nat)), vs = [.ref l, .int (n : Nat), .int cl] ∧ H l = some (.lst ys) ∧ TupsAt H ys (rowsN ts) ∧ n ≤ 240 ∧ ts.length ≤ 100 ∧ (∀ t ∈ ts, t.1 ≤ 1000 ∧ t.2 ≤ 1000) ∧ ∀ (q : Addr) (v u : V) (d1 d2 : PyData) (H' : Hp), Same H H' → H' q = some (.tup [v, u]) → ThD H' v d1 → ThD H' u d2 → (∀ b w, H b = some (.lst w) → V.ref b ≠ v ∧ V.ref b ≠ u) → Q (.ref q) H'
section
variable {P : Program} {w : World} {K : PySem.W.Frag} {mg : Str → Option Value} {base : Heap} {c : Nat → Addr} {R  : Addr}
theorem D_lspoil (T : Txt K mg c R ) : Def P w K mg base CX0 2 "_law_spoiler" ["_law_rows_here", "_law_many_here", "_law_cell_here"] sp_lspoil := by
  have D_ldraws := D_ldraws (P := P) (w := w) (base := base) T
  refine def_of T.d_lspoil sc_lspoil (fun vs H Q E h => ?_) (fun _ _ _ _ _ _ us hl => match us, hl with | [_, _, _], _ => rfl) (fun f cdv A outer s H vs Q E hr h => ?_)
  · obtain ⟨l, n, cl, ys, ts, rfl, _⟩ := h
    rfl
  · obtain ⟨l, n, cl, ys, ts, rfl, hl, tp, n2, fw, bd, k⟩ := h
    have nd := sc_lspoil.nd
    refine' ⟨_, (pss_cons (ps_asg (pe_def D_ldraws hr (pa_cons (pv 2) (pa_cons pe_int pa_nil))) (pg_lst rfl (pgs_cons (pg_name (i := 3) nd rfl (Or.inl rfl)) (pgs_cons (pg_name (i := 4) nd rfl (Or.inl rfl)) (pgs_cons (pg_name (i := 5) nd rfl (Or.inl rfl)) (pgs_cons (pg_name (i := 6) nd rfl (Or.inl rfl)) pgs_nil))))))
      (pss_cons (ps_if (PW.pt (pw_or (pt_cmpR op_eq (pe_op op_mod (pv 3) pe_int) pe_int (nomark _)) (pw_or1 (pt_cmpR (op_eqE hr) (pv 0) (pe_lstA pa_nil) (nomark _))))) (pss_cons (ps_set (i := 7) nd rfl (Or.inl rfl) (pe_lstA ?pa0))
        (pss_cons (ps_set (i := 8) nd rfl (Or.inl rfl) (pe_lstA ?pa1))
        (pss_one (ps_ret (pe_tupA (pa_cons (pe_ix ix_list (pv 7) (pe_op op_mod (pv 6) pe_int) (fun _ _ => rfl)) (pa_cons (pe_ix ix_list (pv 8) (pe_op op_mod (pe_op op_fdiv (pv 6) pe_int) pe_int) (fun _ _ => rfl)) pa_nil))))))) pss_nil)
      (pss_cons (ps_asg (pe_ix ix_list (pv 0) (pe_op op_mod (pv 4) (pe_callB call_lenN rfl T.n_len boot_len (pa_cons (pv 0) pa_nil))) (fun _ _ => rfl)) (pg_tup rfl (pgs_cons (pg_name (i := 9) nd rfl (Or.inl rfl)) (pgs_cons (pg_name (i := 10) nd rfl (Or.inl rfl)) pgs_nil))))
      (pss_cons (ps_if (pt_cmpR op_eq (pe_op op_mod (pv 3) pe_int) pe_int (nomark _)) (pss_one (ps_ret (pe_tupA (pa_cons (pv 9) (pa_cons (pv 10) pa_nil))))) pss_nil)
      (pss_cons (ps_set (i := 11) nd rfl (Or.inl rfl) (pe_ix ix_list (pe_lstA (pa_cons (pe_op op_fdiv (pv 10) pe_int) (pa_cons (pe_op op_mul pe_int (pv 10)) (pa_cons pe_int (pa_cons (pe_op op_mul pe_int (pv 10)) pa_nil))))) (pe_op op_mod (pv 5) pe_int) (fun _ _ => rfl)))
      (pss_one (ps_ret (pe_tupA (pa_cons (pe_op op_sub (pv 9) (pe_op op_mod (pv 9) (pe_callB (call_maxN rfl) rfl T.n_max boot_max (pa_cons pe_int (pa_cons (pv 11) pa_nil))))) (pa_cons (pv 11) pa_nil)))))))))), ?main⟩
    case pa0 =>
      refine' pa_cons ?a0 ?b0 ?c0
      case a0 => exact (pe_op op_mod (pv 4) (pe_op op_add (pv 1) pe_int))
      case c0 => rfl
      case b0 =>
        refine' pa_cons ?a1 ?b1 ?c1
        case a1 => exact (pe_op op_sub (pe_un un_neg pe_int) (pe_op op_mod (pv 4) pe_int))
        case c1 => rfl
        case b1 =>
          refine' pa_cons ?a2 ?b2 ?c2
          case a2 => exact pe_non
          case c2 => rfl
          case b2 =>
            refine' pa_cons ?a3 ?b3 ?c3
            case a3 => exact pe_str
            case c3 => rfl
            case b3 =>
              refine' pa_cons ?a4 ?b4 ?c4
              case a4 => exact pe_bl
              case c4 => rfl
              case b4 =>
                refine' pa_cons ?a5 ?b5 ?c5
                case a5 => exact pe_bl
                case c5 => rfl
                case b5 =>
                  refine' pa_cons ?a6 ?b6 ?c6
                  case a6 => exact (pe_tupA (pa_cons pe_int (pa_cons pe_int pa_nil)))
                  case c6 => rfl
                  case b6 =>
                    exact pa_nil
    case pa1 =>
      refine' pa_cons ?a0 ?b0 ?c0
      case a0 => exact (pe_op op_mod (pv 5) pe_int)
      case c0 => rfl
      case b0 =>
        refine' pa_cons ?a1 ?b1 ?c1
        case a1 => exact pe_int
        case c1 => rfl
        case b1 =>
          refine' pa_cons ?a2 ?b2 ?c2
          case a2 => exact pe_int
          case c2 => rfl
          case b2 =>
            refine' pa_cons ?a3 ?b3 ?c3
            case a3 => exact pe_int
            case c3 => rfl
            case b3 =>
              refine' pa_cons ?a4 ?b4 ?c4
              case a4 => exact pe_str
              case c4 => rfl
              case b4 =>
                refine' pa_cons ?a5 ?b5 ?c5
                case a5 => exact pe_bl
                case c5 => rfl
                case b5 =>
                  refine' pa_cons ?a6 ?b6 ?c6
                  case a6 => exact (pe_lstA (pa_cons pe_int pa_nil))
                  case c6 => rfl
                  case b6 =>
                    refine' pa_cons ?a7 ?b7 ?c7
                    case a7 => exact pe_non
                    case c7 => rfl
                    case b7 =>
                      exact pa_nil
    clear nd D_ldraws
    rw [show start ["_law_rows_here", "_law_many_here", "_law_cell_here", "_law_kind", "_law_first", "_law_second", "_law_third", "_law_starts", "_law_sizes", "_law_start", "_law_size", "_law_wide"] [.ref l, .int (n : Nat), .int cl] = [some (.ref l), some (.int (n : Nat)), some (.int cl), none, none, none, none, none, none, none, none, none] from rfl]
    try dsimp only [cx_K, cx_K2]
    have o_hl := Old.mk (M := []) hl nm0
    have o_tp := OldP.mk tp
    have F : SH H [] H [] [] := SH.nil
    have yl := rowsN_len tp
    repeat k_meth
    refine ⟨cl, 4, rfl, by decide, fun ds p H1 hl4 hd nw => ?_⟩
    obtain ⟨a, b, c, d, rfl⟩ : ∃ a b c d, ds = [a, b, c, d] := match ds, hl4 with | [a, b, c, d], _ => ⟨a, b, c, d, rfl⟩
    have ha := hd a (by simp)
    have hb := hd b (by simp)
    have hc := hd c (by simp)
    have hdd := hd d (by simp)
    replace F := F.newL nw
    refine go_l4 (a := .int a) (b := .int b) (c := .int c) (d := .int d) (σ' := [some (.ref l), some (.int (n : Nat)), some (.int cl), some (.int a), some (.int b), some (.int c), some (.int d), none, none, none, none, none]) (SqL.of nw.e) rfl ?_
    repeat k_meth
    refine i_dec (fun h1 => ?_) (fun h1 => ?_)
    · repeat k_meth
      rename_i tq _ sl _ lq
      obtain ⟨v, dv, at1, th1, fr1⟩ : ∃ v dv, AtI [V.int (b % ((n : Int) + 3)), V.int (-1 - b % 9), V.non, V.str (Str.ofString "1"), V.bl true, V.bl false, V.ref tq] (d % 7) v ∧ ThD H_ v dv ∧ ∀ b w, H b = some (.lst w) → V.ref b ≠ v := by
        have m1 := Int.emod_nonneg b (show ((n : Int) + 3) ≠ 0 by omega)
        have m2 := Int.emod_lt_of_pos b (show 0 < ((n : Int) + 3) by omega)
        rcases (show d % 7 = 0 ∨ d % 7 = 1 ∨ d % 7 = 2 ∨ d % 7 = 3 ∨ d % 7 = 4 ∨ d % 7 = 5 ∨ d % 7 = 6 by omega) with e | e | e | e | e | e | e <;> rw [e]
        · exact ⟨_, _, ⟨rfl⟩, th_int (by omega), fun _ _ _ z => by cases z⟩
        · exact ⟨_, _, ⟨rfl⟩, th_int (by omega), fun _ _ _ z => by cases z⟩
        · exact ⟨_, _, ⟨rfl⟩, (inferInstance : ThA H_ V.non _).e, fun _ _ _ z => by cases z⟩
        · exact ⟨_, _, ⟨rfl⟩, (inferInstance : ThA H_ (V.str (Str.ofString "1")) _).e, fun _ _ _ z => by cases z⟩
        · exact ⟨_, _, ⟨rfl⟩, (inferInstance : ThA H_ (V.bl true) _).e, fun _ _ _ z => by cases z⟩
        · exact ⟨_, _, ⟨rfl⟩, (inferInstance : ThA H_ (V.bl false) _).e, fun _ _ _ z => by cases z⟩
        · exact ⟨_, _, ⟨rfl⟩, th_pair hatC, fun b w hb z => by
          have h8 : H_ tq = some (.tup [.int 0, .int 1]) := hatC
          have h9 := F.sm _ _ hb
          rw [V.ref.inj z, h8] at h9
          cases h9⟩
      obtain ⟨u, du, at2, th2, fr2⟩ : ∃ v dv, AtI [V.int (c % 11), V.int 1, V.int 3, V.int 0, V.str (Str.ofString "2"), V.bl true, V.ref lq, V.non] (d / 7 % 8) v ∧ ThD H_ v dv ∧ ∀ b w, H b = some (.lst w) → V.ref b ≠ v := by
        rcases (show d / 7 % 8 = 0 ∨ d / 7 % 8 = 1 ∨ d / 7 % 8 = 2 ∨ d / 7 % 8 = 3 ∨ d / 7 % 8 = 4 ∨ d / 7 % 8 = 5 ∨ d / 7 % 8 = 6 ∨ d / 7 % 8 = 7 by omega) with e | e | e | e | e | e | e | e <;> rw [e]
        · exact ⟨_, _, ⟨rfl⟩, th_int (by omega), fun _ _ _ z => by cases z⟩
        · exact ⟨_, _, ⟨rfl⟩, th_int (by decide), fun _ _ _ z => by cases z⟩
        · exact ⟨_, _, ⟨rfl⟩, th_int (by decide), fun _ _ _ z => by cases z⟩
        · exact ⟨_, _, ⟨rfl⟩, th_int (by decide), fun _ _ _ z => by cases z⟩
        · exact ⟨_, _, ⟨rfl⟩, (inferInstance : ThA H_ (V.str (Str.ofString "2")) _).e, fun _ _ _ z => by cases z⟩
        · exact ⟨_, _, ⟨rfl⟩, (inferInstance : ThA H_ (V.bl true) _).e, fun _ _ _ z => by cases z⟩
        · exact ⟨_, _, ⟨rfl⟩, th_one hatC, fun b w hb z => F.fresh (LkL.m (a := lq) (o := .lst _)) nm0 b _ hb (V.ref.inj z)⟩
        · exact ⟨_, _, ⟨rfl⟩, (inferInstance : ThA H_ V.non _).e, fun _ _ _ z => by cases z⟩
      obtain ⟨Hz, e_⟩ : ∃ q, q = H_ := ⟨_, rfl⟩
      subst e_
      have smz := F.sm
      have hsl : Hz sl = some (.lst [V.int (b % ((n : Int) + 3)), V.int (-1 - b % 9), V.non, V.str (Str.ofString "1"), V.bl true, V.bl false, V.ref tq]) := hatC
      have hzl : Hz p_ = some (.lst [V.int (c % 11), V.int 1, V.int 3, V.int 0, V.str (Str.ofString "2"), V.bl true, V.ref lq, V.non]) := hatC
      clear F
      have F : SH Hz [] Hz [] [] := SH.nil
      have o_s := Old.mk (M := []) hsl nm0
      have o_z := Old.mk (M := []) hzl nm0
      repeat k_meth
      have sz := F.sm
      exact k _ v u dv du _ (smz.trans sz) hatC (th1.kept fun x y _ e => sz _ _ e) (th2.kept fun x y _ e => sz _ _ e) (fun b w hb => ⟨fr1 b w hb, fr2 b w hb⟩)
    repeat k_meth
    by_cases e0 : ys = []
    · rw [decide_eq_true e0]
      repeat k_meth
      rename_i tq _ sl _ lq
      obtain ⟨v, dv, at1, th1, fr1⟩ : ∃ v dv, AtI [V.int (b % ((n : Int) + 3)), V.int (-1 - b % 9), V.non, V.str (Str.ofString "1"), V.bl true, V.bl false, V.ref tq] (d % 7) v ∧ ThD H_ v dv ∧ ∀ b w, H b = some (.lst w) → V.ref b ≠ v := by
        have m1 := Int.emod_nonneg b (show ((n : Int) + 3) ≠ 0 by omega)
        have m2 := Int.emod_lt_of_pos b (show 0 < ((n : Int) + 3) by omega)
        rcases (show d % 7 = 0 ∨ d % 7 = 1 ∨ d % 7 = 2 ∨ d % 7 = 3 ∨ d % 7 = 4 ∨ d % 7 = 5 ∨ d % 7 = 6 by omega) with e | e | e | e | e | e | e <;> rw [e]
        · exact ⟨_, _, ⟨rfl⟩, th_int (by omega), fun _ _ _ z => by cases z⟩
        · exact ⟨_, _, ⟨rfl⟩, th_int (by omega), fun _ _ _ z => by cases z⟩
        · exact ⟨_, _, ⟨rfl⟩, (inferInstance : ThA H_ V.non _).e, fun _ _ _ z => by cases z⟩
        · exact ⟨_, _, ⟨rfl⟩, (inferInstance : ThA H_ (V.str (Str.ofString "1")) _).e, fun _ _ _ z => by cases z⟩
        · exact ⟨_, _, ⟨rfl⟩, (inferInstance : ThA H_ (V.bl true) _).e, fun _ _ _ z => by cases z⟩
        · exact ⟨_, _, ⟨rfl⟩, (inferInstance : ThA H_ (V.bl false) _).e, fun _ _ _ z => by cases z⟩
        · exact ⟨_, _, ⟨rfl⟩, th_pair hatC, fun b w hb z => by
          have h8 : H_ tq = some (.tup [.int 0, .int 1]) := hatC
          have h9 := F.sm _ _ hb
          rw [V.ref.inj z, h8] at h9
          cases h9⟩
      obtain ⟨u, du, at2, th2, fr2⟩ : ∃ v dv, AtI [V.int (c % 11), V.int 1, V.int 3, V.int 0, V.str (Str.ofString "2"), V.bl true, V.ref lq, V.non] (d / 7 % 8) v ∧ ThD H_ v dv ∧ ∀ b w, H b = some (.lst w) → V.ref b ≠ v := by
        rcases (show d / 7 % 8 = 0 ∨ d / 7 % 8 = 1 ∨ d / 7 % 8 = 2 ∨ d / 7 % 8 = 3 ∨ d / 7 % 8 = 4 ∨ d / 7 % 8 = 5 ∨ d / 7 % 8 = 6 ∨ d / 7 % 8 = 7 by omega) with e | e | e | e | e | e | e | e <;> rw [e]
        · exact ⟨_, _, ⟨rfl⟩, th_int (by omega), fun _ _ _ z => by cases z⟩
        · exact ⟨_, _, ⟨rfl⟩, th_int (by decide), fun _ _ _ z => by cases z⟩
        · exact ⟨_, _, ⟨rfl⟩, th_int (by decide), fun _ _ _ z => by cases z⟩
        · exact ⟨_, _, ⟨rfl⟩, th_int (by decide), fun _ _ _ z => by cases z⟩
        · exact ⟨_, _, ⟨rfl⟩, (inferInstance : ThA H_ (V.str (Str.ofString "2")) _).e, fun _ _ _ z => by cases z⟩
        · exact ⟨_, _, ⟨rfl⟩, (inferInstance : ThA H_ (V.bl true) _).e, fun _ _ _ z => by cases z⟩
        · exact ⟨_, _, ⟨rfl⟩, th_one hatC, fun b w hb z => F.fresh (LkL.m (a := lq) (o := .lst _)) nm0 b _ hb (V.ref.inj z)⟩
        · exact ⟨_, _, ⟨rfl⟩, (inferInstance : ThA H_ V.non _).e, fun _ _ _ z => by cases z⟩
      obtain ⟨Hz, e_⟩ : ∃ q, q = H_ := ⟨_, rfl⟩
      subst e_
      have smz := F.sm
      have hsl : Hz sl = some (.lst [V.int (b % ((n : Int) + 3)), V.int (-1 - b % 9), V.non, V.str (Str.ofString "1"), V.bl true, V.bl false, V.ref tq]) := hatC
      have hzl : Hz p_ = some (.lst [V.int (c % 11), V.int 1, V.int 3, V.int 0, V.str (Str.ofString "2"), V.bl true, V.ref lq, V.non]) := hatC
      clear F
      have F : SH Hz [] Hz [] [] := SH.nil
      have o_s := Old.mk (M := []) hsl nm0
      have o_z := Old.mk (M := []) hzl nm0
      repeat k_meth
      have sz := F.sm
      exact k _ v u dv du _ (smz.trans sz) hatC (th1.kept fun x y _ e => sz _ _ e) (th2.kept fun x y _ e => sz _ _ e) (fun b w hb => ⟨fr1 b w hb, fr2 b w hb⟩)
    rw [decide_eq_false e0]
    have l0 : 0 < ys.length := List.length_pos_iff.mpr e0
    have m1 := Int.emod_nonneg b (show (ys.length : Int) ≠ 0 by omega)
    have m2 := Int.emod_lt_of_pos b (show 0 < (ys.length : Int) by omega)
    have jl : (b % (ys.length : Int)).toNat < ys.length := by omega
    obtain ⟨w, q, e1, e2, e3⟩ := rowsN_at (H := H) (ws := ts) tp (i := (b % (ys.length : Int)).toNat) (v := ys[(b % (ys.length : Int)).toNat]) (List.getElem?_eq_getElem jl)
    have a1 : AtI ys (b % (ys.length : Int)) (.ref q) := ⟨by
      rw [show b % (ys.length : Int) = (((b % (ys.length : Int)).toNat : Nat) : Int) by omega]
      exact atI_nat (by rw [← e2]; exact List.getElem?_eq_getElem jl)⟩
    have bw := bd w (List.mem_of_getElem? e1)
    have o_q := Old.mk (M := []) e3 nm0
    repeat k_meth
    refine i_dec (fun h2 => ?_) (fun h2 => ?_)
    · repeat k_meth
      exact k _ _ _ _ _ _ F.sm hatC (th_int (by omega)) (th_int (by omega)) (fun _ _ _ => ⟨(fun z => by cases z), fun z => by cases z⟩)
    obtain ⟨z, at2, z0, z1⟩ : ∃ z : Int, AtI [V.int ((w.2 : Int) / 2), V.int (2 * (w.2 : Int)), V.int 1, V.int (4 * (w.2 : Int))] (c % 4) (.int z) ∧ 0 ≤ z ∧ z ≤ 4000 := by
      rcases (show c % 4 = 0 ∨ c % 4 = 1 ∨ c % 4 = 2 ∨ c % 4 = 3 by omega) with e | e | e | e <;> rw [e]
      · exact ⟨_, ⟨rfl⟩, by omega, by omega⟩
      · exact ⟨_, ⟨rfl⟩, by omega, by omega⟩
      · exact ⟨_, ⟨rfl⟩, by omega, by omega⟩
      · exact ⟨_, ⟨rfl⟩, by omega, by omega⟩
    repeat k_meth
    have m3 := Int.emod_nonneg (w.1 : Int) (show max 1 z ≠ 0 by omega)
    have m4 := Int.emod_lt_of_pos (w.1 : Int) (show 0 < max 1 z by omega)
    exact k _ _ _ _ _ _ F.sm hatC (th_int (by omega)) (th_int (by omega)) (fun _ _ _ => ⟨(fun z => by cases z), fun z => by cases z⟩)
end
open M44
theorem good_take {n : Nat} {ts : List (Nat × Nat)} {i : Nat} {w : Nat × Nat} (h : GoodT n ts) (e : ts[i]? = some w) : Pc n w.1 w.2 ∧ (ts.take i).any (meetB w.1 w.2) = false := by
  obtain ⟨a, b⟩ := h i w e
  exact ⟨a, by rw [List.any_eq_false]; exact fun t ht => by rw [b t ht]; decide⟩
theorem no_fp {n : Nat} {v u : V} {ts : List (Nat × Nat)} (h : ¬ FpV n v u ts) : ¬ PcV n v u ∨ ∃ a b : Nat, v = .int (a : Nat) ∧ u = .int (b : Nat) ∧ ts.any (meetB a b) = true := by
  by_cases hp : PcV n v u
  · obtain ⟨a, b, rfl, rfl, pc⟩ := hp
    refine .inr ⟨a, b, rfl, rfl, ?_⟩
    cases ha : ts.any (meetB a b) with
    | true => rfl
    | false => exact absurd (fpv_iff.mpr ⟨pc, fun t ht => by simpa using List.any_eq_false.mp ha t ht⟩) h
  · exact .inl hp
theorem call_repM {X : Cx} {K : PySem.W.Frag} {k : Nat} {A : Around} (hK : X.K = K) (hr : Room k A) (eu : X.A.units = A.units) (eg : X.A.guards = A.guards) : CallR X (.builtin "repr") (rRepK K) := by
  intro pins s σ H xs us Q I r h
  obtain ⟨x, d, rfl, sh, hs, hd, hz, q⟩ := h
  obtain ⟨u, rfl, rx⟩ := vals1 r
  obtain ⟨as, ra, hsm⟩ := sh X hK pins σ s u I rx
  have hu := hr.un
  have hg := hr.gd
  rw [← eu] at hu
  rw [← eg] at hg
  cases u with
  | ref a => exact repr_of_reads' ra hs hsm hg (by omega) (fun _ _ e => e) (fun h' u tk hk => ⟨.str _, H, I.kept hk, ⟨u, rfl⟩, q⟩) hz
  | none => cases ra; simp only [PyData.shown] at q; exact PySem.P.repr_of_none ⟨.str _, H, I.tok _, ⟨_, rfl⟩, q⟩
  | bool b => cases ra; simp only [PyData.shown] at q; exact PySem.P.repr_of_bool ⟨.str _, H, I.tok _, ⟨_, rfl⟩, q⟩
  | int i t => cases ra; simp only [PyData.shown] at q; exact PySem.P.repr_of_int (by simpa [PyData.showable] using hs) ⟨.str _, H, I.tok _, ⟨_, rfl⟩, q⟩
  | str y t => cases ra; simp only [PyData.shown] at q hz; exact PySem.P.repr_of_str ⟨.str _, H, I.tok _, ⟨_, rfl⟩, q⟩ hz
  | _ => cases ra
def sp_ldue (K : PySem.W.Frag) : Sp := fun vs H Q _ => ∃ (n : Nat) (l : Addr) (ys : List V) (ts : List (Nat × Nat)), vs = [.int (n : Nat), .ref l] ∧ 16 ≤ n ∧ n ≤ 240 ∧ H l = some (.lst ys) ∧ ys.length ≤ 1000 ∧ GoodT n ts ∧
  ((TupsAt H ys (rowsN ts) ∧ ∀ H', Same H H' → Q .non H') ∨
   (∃ (q : Addr) (v u : V) (t1 t2 : String) (ya rest : List V), ys = ya ++ .ref q :: rest ∧ TupsAt H ya (rowsN ts) ∧ H q = some (.tup [v, u]) ∧ TyOf K H v (.type t1) ∧ TyOf K H u (.type t2) ∧ ¬ FpV n v u ts ∧ ∀ H', Same H H' → Q (.ref q) H'))
def sp_lrefused : Sp := fun vs H Q _ => ∃ (n : Nat) (l q : Addr) (ys : List V) (ts : List (Nat × Nat)) (v u : V) (d1 d2 : PyData) (ya rest : List V), vs = [.int (n : Nat), .ref l, .ref q] ∧ 16 ≤ n ∧ n ≤ 240 ∧ H l = some (.lst ys) ∧ ys.length ≤ 1000 ∧ GoodT n ts ∧ ys = ya ++ .ref q :: rest ∧ TupsAt H ya (rowsN ts) ∧ H q = some (.tup [v, u]) ∧ ThD H v d1 ∧ ThD H u d2 ∧ ¬ FpV n v u ts ∧ ∀ H', Same H H' → Q (.bl true) H'
instance go_lpieceV {K : PySem.W.Frag} {H : Hp} {Q : VK} {E : XK} {n : Nat} {v u : V} {t1 t2 : String} [h : TyA K H v t1] [h2 : TyA K H u t2] : Go (sp_lpiece K [.int (n : Nat), v, u] H Q E) (Sd (16 ≤ n ∧ n ≤ 240) (∀ H', Same H H' → Q (.bl (tr (PcV n v u))) H')) := ⟨fun k => ⟨n, v, u, t1, t2, rfl, k.1.1, k.1.2, h.e, h2.e, k.2⟩⟩
instance go_lmeets {H : Hp} {Q : VK} {E : XK} {q l : Addr} {ys : List V} {ts : List (Nat × Nat)} {a b : Nat} [h : Hat H q (.tup [.int (a : Nat), .int (b : Nat)])] [h2 : Hat H l (.lst ys)] [t : TpA H ys (rowsN ts)] : Go (sp_lmeets [.ref q, .ref l] H Q E) (∀ H', Same H H' → Q (.bl (ts.any (meetB a b))) H') := ⟨fun k => ⟨q, l, ys, ts, a, b, rfl, h.e, h2.e, t.e, k⟩⟩
section
variable {P : Program} {w : World} {K : PySem.W.Frag} {mg : Str → Option Value} {base : Heap} {c : Nat → Addr} {R  : Addr}
theorem D_ldue (T : Txt K mg c R ) : Def P w K mg base CX0 3 "_law_due" ["_law_many_here", "_law_rows_here"] (sp_ldue K) := by
  have D_lmeets := D_lmeets (P := P) (w := w) (base := base) T
  have D_lpiece := D_lpiece (P := P) (w := w) (base := base) T
  refine def_of T.d_ldue sc_ldue (fun vs H Q E h => ?_) (fun _ _ _ _ _ _ us hl => match us, hl with | [_, _], _ => rfl) (fun f cdv A outer s H vs Q E hr h => ?_)
  · obtain ⟨n, l, ys, ts, rfl, _⟩ := h
    rfl
  · obtain ⟨n, l, ys, ts, rfl, n1, n2, hl, yl, gd, kk⟩ := h
    have nd := sc_ldue.nd
    refine ⟨_, (pss_cons (ps_set (i := 2) nd rfl (Or.inl rfl) (pe_lstA pa_nil))
      (pss_cons (ps_for PassesOwn.never rfl (pi_list (pv 1)) (pg_name (i := 3) nd rfl (Or.inl rfl)) (pss_cons (ps_if (PW.pt (pw_or (pt_not (pt_val (pe_def D_lpiece hr (pa_cons (pv 0) (pa_cons (pe_ix ix_tup (pv 3) pe_int (fun _ _ => rfl)) (pa_cons (pe_ix ix_tup (pv 3) pe_int (fun _ _ => rfl)) pa_nil)))))) (pw_or1 (pt_val (pe_def D_lmeets hr (pa_cons (pv 3) (pa_cons (pv 2) pa_nil))))))) (pss_one (ps_ret (pv 3))) pss_nil)
        (pss_one (ps_expr (pe_appendA (pv 2) (pv 3))))))
      (pss_one (ps_ret pe_non)))), ?_⟩
    clear nd D_lmeets D_lpiece
    rw [show start ["_law_many_here", "_law_rows_here", "_law_ahead", "_law_row"] [.int (n : Nat), .ref l] = [some (.int (n : Nat)), some (.ref l), none, none] from rfl]
    try dsimp only [cx_K, cx_K2]
    have o_hl := Old.mk (M := []) hl nm0
    have F : SH H [] H [] [] := SH.nil
    rcases kk with ⟨tp, k⟩ | ⟨q, v, u, t1, t2, ya, rest, ey, tp, hq, ty, uy, nf, k⟩
    · have tl := rowsN_len tp
      repeat k_meth
      obtain ⟨ah, e_⟩ : ∃ q, q = p_ := ⟨_, rfl⟩
      subst e_
      rw [show ([] : List V) = ys.take 0 from rfl] at F
      refine forL_by (xs := ys) (fun i σ' H' => ∃ o3 : Option V, σ' = [some (.int (n : Nat)), some (.ref l), some (.ref ah), o3] ∧ SH H [] H' [(ah, .lst (ys.take i))] [.tps (ys.take i) (rowsN (ts.take i)), .tps ys (rowsN ts)]) ⟨_, rfl, ((F.addP (tp.same F.sm)).addP (ys := ys.take 0) (rs := rowsN (ts.take 0)) TupsAt.nil).sub SbC.s (by simp)⟩ ?_ ?_ ?_
      · clear F
        rintro i σ' H' hi ⟨_, rfl, F⟩
        exact SqA.e
      · clear F
        rintro i x σ' H' hx ⟨_, rfl, F⟩
        obtain ⟨w, q, e1, rfl, e2⟩ := rowsN_at (H := H') (ws := ts) TpA.e hx
        obtain ⟨pc, nmt⟩ := good_take gd e1
        have tls : (ys.take i).length < sizeLine := by rw [List.length_take, sizeLine_eq]; omega
        replace F := F.addT e2
        repeat k_meth
        rw [tr_T (pcv_iff.mpr pc)]
        repeat k_meth
        rw [nmt]
        repeat k_meth
        have et : ys.take i ++ [V.ref q] = ys.take (i + 1) := by rw [List.take_add_one, hx]; rfl
        have tk : TupsAt H_ (ys.take (i + 1)) (rowsN (ts.take (i + 1))) := by rw [rowsN_take]; exact tupsN_take TpA.e (i + 1)
        rw [et] at F
        exact ⟨_, rfl, (F.addP tk).sub SbC.s (by simp)⟩
      · clear F
        rintro σ' H' ⟨_, rfl, F⟩
        repeat k_meth
        exact k _ F.sm
    · have tl := rowsN_len tp
      have o_q := Old.mk (M := []) hq nm0
      have o_v : OldT K H [] v t1 := ⟨ty, fun _ _ z => by cases z⟩
      have o_u : OldT K H [] u t2 := ⟨uy, fun _ _ z => by cases z⟩
      repeat k_meth
      obtain ⟨ah, e_⟩ : ∃ q, q = p_ := ⟨_, rfl⟩
      subst e_
      rw [show ([] : List V) = ys.take 0 from rfl] at F
      refine forL_by (xs := ys) (fun i σ' H' => ∃ o3 : Option V, σ' = [some (.int (n : Nat)), some (.ref l), some (.ref ah), o3] ∧ i ≤ ya.length ∧ SH H [] H' [(ah, .lst (ys.take i))] [.tps (ys.take i) (rowsN (ts.take i)), .tps ya (rowsN ts)]) ⟨_, rfl, by omega, ((F.addP (tp.same F.sm)).addP (ys := ys.take 0) (rs := rowsN (ts.take 0)) TupsAt.nil).sub SbC.s (by simp)⟩ ?_ ?_ ?_
      · clear F
        rintro i σ' H' hi ⟨_, rfl, _, F⟩
        exact SqA.e
      · clear F
        rintro i x σ' H' hx ⟨_, rfl, hle, F⟩
        have tls : (ys.take i).length < sizeLine := by rw [List.length_take, sizeLine_eq]; omega
        by_cases hlt : i < ya.length
        · have hx2 : ya[i]? = some x := by rw [ey, List.getElem?_append_left hlt] at hx; exact hx
          obtain ⟨w, q2, e1, rfl, e2⟩ := rowsN_at (H := H') (ws := ts) TpA.e hx2
          obtain ⟨pc, nmt⟩ := good_take gd e1
          replace F := F.addT e2
          repeat k_meth
          rw [tr_T (pcv_iff.mpr pc)]
          repeat k_meth
          rw [nmt]
          repeat k_meth
          have et : ys.take i ++ [V.ref q2] = ys.take (i + 1) := by rw [List.take_add_one, hx]; rfl
          have tk : TupsAt H_ (ys.take (i + 1)) (rowsN (ts.take (i + 1))) := by
            rw [rowsN_take, ey, List.take_append_of_le_length (by omega)]
            exact tupsN_take TpA.e (i + 1)
          rw [et] at F
          exact ⟨_, rfl, by omega, (F.addP tk).sub SbC.s (by simp)⟩
        · have ei : i = ya.length := by omega
          obtain rfl : V.ref q = x := by rw [ey, ei, List.getElem?_append_right (Nat.le_refl _), Nat.sub_self] at hx; exact Option.some.inj hx
          rcases no_fp nf with np | ⟨a, b, rfl, rfl, ha⟩
          · repeat k_meth
            rw [tr_F np]
            repeat k_meth
            exact k _ F.sm
          · by_cases np : PcV n (.int (a : Nat)) (.int (b : Nat))
            · repeat k_meth
              rw [tr_T np]
              repeat k_meth
              rw [List.take_of_length_le (by omega), ha]
              repeat k_meth
              exact k _ F.sm
            · repeat k_meth
              rw [tr_F np]
              repeat k_meth
              exact k _ F.sm
      · rintro σ' H' ⟨_, rfl, hle, _⟩
        rw [ey, List.length_append, List.length_cons] at hle
        omega
theorem D_lrefused (T : Txt K mg c R ) : Def P w K mg base CX0 19 "_law_refused" ["_law_many_here", "_law_rows_here", "_law_due_here"] sp_lrefused := by
  have D_pieces := D_pieces (P := P) (w := w) (base := base) T
  refine def_of T.d_lrefused sc_lrefused (fun vs H Q E h => ?_) (fun _ _ _ _ _ _ us hl => match us, hl with | [_, _, _], _ => rfl) (fun f cdv A outer s H vs Q E hr h => ?_)
  · obtain ⟨n, l, q, ys, ts, v, u, d1, d2, ya, rest, rfl, _⟩ := h
    rfl
  · obtain ⟨n, l, q, ys, ts, v, u, d1, d2, ya, rest, rfl, n1, n2, hl, yl, gd, ey, tp, hq, tv, tu, nf, k⟩ := h
    have nd := sc_lrefused.nd
    refine ⟨_, (pss_cons (ps_try (fun pins EX => (pss_one (ps_expr (pe_defx D_pieces hr (pa_cons (pv 0) (pa_cons (pv 1) pa_nil)))))) (ph_as (i := 3) T.e_NotFree.gl (fun a => (pss_one (ps_ret (pe_and (pe_cmpR op_eq (pe_callB (call_repM rfl hr rfl rfl) rfl T.n_repr boot_repr (pa_cons (pe_exfT T.e_NotFree.I.g T.a_NotFree_start (pv 3)) pa_nil)) (pe_callB (call_repM rfl hr rfl rfl) rfl T.n_repr boot_repr (pa_cons (pe_ix ix_tup (pv 2) pe_int (fun _ _ => rfl)) pa_nil)) (nomark _)) (pe_and (pe_cmpR op_eq (pe_callB (call_repM rfl hr rfl rfl) rfl T.n_repr boot_repr (pa_cons (pe_exfT T.e_NotFree.I.g T.a_NotFree_size (pv 3)) pa_nil)) (pe_callB (call_repM rfl hr rfl rfl) rfl T.n_repr boot_repr (pa_cons (pe_ix ix_tup (pv 2) pe_int (fun _ _ => rfl)) pa_nil)) (nomark _)) (pe_one (pe_callB call_isXT rfl T.n_isinstance boot_isinstance (pa_cons (pv 3) (pa_cons (pe_gl (v := .ref R) ⟨_, T.g_R, rfl⟩) pa_nil))))))))) ph_nil nd rfl rfl))
      (pss_one (ps_ret pe_bl))), ?_⟩
    clear nd D_pieces
    rw [show start ["_law_many_here", "_law_rows_here", "_law_due_here", "e"] [.int (n : Nat), .ref l, .ref q] = [some (.int (n : Nat)), some (.ref l), some (.ref q), none] from rfl]
    try dsimp only [cx_K, cx_K2]
    have xm_NotFree : ExM K (c 1) (c 1) true := ⟨exm_same T.e_NotFree.I⟩
    have xr_NotFree : ExM K (c 1) R true := ⟨exm_up T.e_NotFree.I T.c_R T.t_R T.m_R⟩
    have o_hl := Old.mk (M := []) hl nm0
    have o_hq := Old.mk (M := []) hq nm0
    have F : SH H [] H [] [] := SH.nil
    have o_v : OldD H [] v d1 := ⟨tv, fun _ _ z => by cases z⟩
    have o_u : OldD H [] u d2 := ⟨tu, fun _ _ z => by cases z⟩
    obtain ⟨t1, ty⟩ := tv.ty (K := K)
    obtain ⟨t2, uy⟩ := tu.ty (K := K)
    repeat k_meth
    refine ⟨n, l, ys, ts, rfl, n1, n2, hatC, yl, gd, .inr ⟨q, v, u, t1, t2, ya, rest, ey, tp, hatC, ty, uy, nf, ?_⟩⟩
    repeat k_meth
    refine ⟨a_, _, u, rfl, exA_.e, lk2 (by decide), ?_⟩
    repeat k_meth
    refine ⟨a_, _, _, R, _, true, rfl, exA_.e, T.e_NotFree.I, kit_excR T.e_NotFree.I T.c_R T.t_R, ?_⟩
    repeat k_meth
    exact k _ F.sm
end
open M44
theorem meet_symm {a b : Nat} {t : Nat × Nat} : meetB a b t = meetB t.1 t.2 (a, b) := by
  rw [Bool.eq_iff_iff, meetB_iff, meetB_iff]
  exact ⟨fun h => ⟨h.2, h.1⟩, fun h => ⟨h.2, h.1⟩⟩
theorem good_pw {n : Nat} {ts : List (Nat × Nat)} : GoodT n ts ↔ (∀ t ∈ ts, Pc n t.1 t.2) ∧ ts.Pairwise (fun s t => meetB t.1 t.2 s = false) := by
  constructor
  · intro h
    refine ⟨h.pc, List.pairwise_iff_getElem.mpr fun i j hi hj hij => ?_⟩
    exact (h j ts[j] (List.getElem?_eq_getElem hj)).2 _ (by
      rw [List.mem_take_iff_getElem]
      exact ⟨i, by omega, rfl⟩)
  · rintro ⟨h1, h2⟩ i w e
    refine ⟨h1 w (List.mem_of_getElem? e), fun t ht => ?_⟩
    obtain ⟨hi, rfl⟩ := List.getElem?_eq_some_iff.mp e
    obtain ⟨j, hj, rfl⟩ := List.mem_take_iff_getElem.mp ht
    exact List.pairwise_iff_getElem.mp h2 j i (by omega) hi (by omega)
theorem good_rev {n : Nat} {ts : List (Nat × Nat)} (h : GoodT n ts) : GoodT n ts.reverse := by
  obtain ⟨h1, h2⟩ := good_pw.mp h
  refine good_pw.mpr ⟨fun t ht => h1 t (List.mem_reverse.mp ht), List.pairwise_reverse.mpr (h2.imp fun {a b} e => ?_)⟩
  rw [meet_symm]
  exact e
theorem good_snoc {n : Nat} {ts : List (Nat × Nat)} {a b : Nat} (h : GoodT n ts) (pc : Pc n a b) (hm : ts.any (meetB a b) = false) : GoodT n (ts ++ [(a, b)]) := by
  obtain ⟨h1, h2⟩ := good_pw.mp h
  refine good_pw.mpr ⟨fun t ht => ?_, List.pairwise_append.mpr ⟨h2, by simp, fun s hs t ht => ?_⟩⟩
  · rcases List.mem_append.mp ht with ht | ht
    · exact h1 t ht
    · rw [List.mem_singleton.mp ht]
      exact pc
  · rw [List.mem_singleton.mp ht]
    simpa using List.any_eq_false.mp hm s hs
theorem tupsN_rev {H : Hp} {ys : List V} {ts : List (Nat × Nat)} (h : TupsAt H ys (rowsN ts)) : TupsAt H ys.reverse (rowsN ts.reverse) := by
  rw [show rowsN ts.reverse = (rowsN ts).reverse by unfold rowsN; rw [List.map_reverse]]
  exact h.reverse
instance go_neRN {K : PySem.W.Frag} {H : Hp} {Q : VK} {p q : Addr} {xs ys : List V} {ts : List (Nat × Nat)} [h : Hat H p (.lst xs)] [h2 : Hat H q (.lst ys)] [t : TpA H xs (rowsN ts)] [t2 : TpA H ys (rowsN ts)] : Go (rNeD K (.ref p) (.ref q) H Q) (Q (.bl false) H) := ⟨w_neSame (rep_rows (SqL.of h.e) t.e (flat_N _)) (rep_rows (SqL.of h2.e) t2.e (flat_N _)) (Nat.le_trans (dep_rowsL _) (by decide))⟩
instance go_eqRN {K : PySem.W.Frag} {H : Hp} {Q : VK} {p q : Addr} {xs ys : List V} {ts : List (Nat × Nat)} [h : Hat H p (.lst xs)] [h2 : Hat H q (.lst ys)] [t : TpA H xs (rowsN ts)] [t2 : TpA H ys (rowsN ts)] : Go (rEqD K (.ref p) (.ref q) H Q) (Q (.bl true) H) := ⟨w_eqSame (rep_rows (SqL.of h.e) t.e (flat_N _)) (rep_rows (SqL.of h2.e) t2.e (flat_N _)) (Nat.le_trans (dep_rowsL _) (by decide))⟩
instance go_lrowsI {H : Hp} {Q : VK} {E : XK} {l : Addr} {ys : List V} {ts : List (Nat × Nat)} [h : Hat H l (.lst ys)] [t : TpA H ys (rowsN ts)] : Go (sp_lrows [.ref l] H Q E) (Sd (ts.length ≤ 1000) (∀ H', Same H H' → Q (.bl true) H')) := ⟨fun k => ⟨l, ys, ts, rfl, h.e, t.e, k.1, k.2⟩⟩
instance go_rev1 {K : PySem.W.Frag} {H : Hp} {a : Addr} {xs : List V} {Z : Addr → Hp → Prop} [h : SqA K H a xs] : Go (∃ a' xs', V.ref a = .ref a' ∧ V.int (-1) = .int (-1) ∧ SqL K H a' xs' ∧ ∀ p H', New H H' p (.lst xs'.reverse) → Z p H') (∀ p H', New H H' p (.lst xs.reverse) → Z p H') := ⟨fun k => ⟨a, xs, rfl, rfl, h.e, k⟩⟩
def sp_ltold : Sp := fun vs H Q _ => ∃ (n : Nat) (l : Addr) (ys : List V) (ts : List (Nat × Nat)), vs = [.int (n : Nat), .ref l] ∧ 16 ≤ n ∧ n ≤ 240 ∧ H l = some (.lst ys) ∧ TupsAt H ys (rowsN ts) ∧ GoodT n ts ∧ ts.length ≤ 500 ∧ ∀ H', Same H H' → Q (.bl true) H'
section
variable {P : Program} {w : World} {K : PySem.W.Frag} {mg : Str → Option Value} {base : Heap} {c : Nat → Addr} {R  : Addr}
theorem D_ltold (T : Txt K mg c R ) : Def P w K mg base CX0 19 "_law_told" ["_law_many_here", "_law_rows_here"] sp_ltold := by
  have D_pieces := D_pieces (P := P) (w := w) (base := base) T
  have D_lfree := D_lfree (P := P) (w := w) (base := base) T
  have D_lrows := D_lrows (P := P) (w := w) (base := base) T
  refine def_of T.d_ltold sc_ltold (fun vs H Q E h => ?_) (fun _ _ _ _ _ _ us hl => match us, hl with | [_, _], _ => rfl) (fun f cdv A outer s H vs Q E hr h => ?_)
  · obtain ⟨n, l, ys, ts, rfl, _⟩ := h
    rfl
  · obtain ⟨n, l, ys, ts, rfl, n1, n2, hl, tp, gd, fw, k⟩ := h
    have nd := sc_ltold.nd
    refine ⟨_, (pss_cons (ps_set (i := 2) nd rfl (Or.inl rfl) (pe_callTy call_list_ofA rfl T.n_list boot_list (pa_cons (pv 1) pa_nil)))
      (pss_cons (ps_set (i := 3) nd rfl (Or.inl rfl) (pe_def D_pieces hr (pa_cons (pv 0) (pa_cons (pv 2) pa_nil)) (hx := pass10)))
      (pss_cons (ps_set (i := 4) nd rfl (Or.inl rfl) (pe_def D_lfree hr (pa_cons (pv 0) (pa_cons (pv 1) pa_nil))))
      (pss_cons (ps_if (PW.pt (pw_or (pt_cmpR (op_ne_dN hr) (pv 2) (pv 1) (nomark _)) (pw_or (pt_not (pt_val (pe_def D_lrows hr (pa_cons (pv 3) pa_nil)))) (pw_or1 (pt_cmpR (op_ne_dN hr) (pv 3) (pv 4) (nomark _)))))) (pss_one (ps_ret pe_bl)) pss_nil)
      (pss_cons (ps_expr (pe_appendA (pv 3) (pe_tupA (pa_cons pe_int (pa_cons pe_int pa_nil)))))
      (pss_cons (ps_expr (pe_clearA (pv 2)))
      (pss_one (ps_ret (pe_and (pe_cmpR (op_eq_dN hr) (pe_def D_pieces hr (pa_cons (pv 0) (pa_cons (pv 1) pa_nil)) (hx := pass10)) (pv 4) (nomark _)) (pe_one (pe_cmpR (op_eq_dN hr) (pe_def D_pieces hr (pa_cons (pv 0) (pa_cons (pe_revSl (pv 1) (pe_un un_neg pe_int)) pa_nil)) (hx := pass10)) (pv 4) (nomark _)))))))))))), ?_⟩
    clear nd D_pieces D_lfree D_lrows
    rw [show start ["_law_many_here", "_law_rows_here", "_law_handed", "_law_told_here", "_law_due_here"] [.int (n : Nat), .ref l] = [some (.int (n : Nat)), some (.ref l), none, none, none] from rfl]
    try dsimp only [cx_K, cx_K2]
    have o_hl := Old.mk (M := []) hl nm0
    have o_tp := OldP.mk tp
    have F : SH H [] H [] [] := SH.nil
    have yl := rowsN_len tp
    have cf := wh_fine n2
    have frl := fr_len (ts := ts) cf
    repeat k_meth
    obtain ⟨hd, e_⟩ : ∃ q, q = p_ := ⟨_, rfl⟩
    subst e_
    refine ⟨n, hd, ys, ts, rfl, n1, n2, hatC, by omega, gd, .inl ⟨TpA.e, fun td zs H2 nw t2 => ?_⟩⟩
    replace F := (F.newL nw).addP t2
    have zl := rowsN_len t2
    repeat k_meth
    refine ⟨n, l, ys, ts, rfl, n1, n2, hatC, TpA.e, gd.pc, fun du ws H3 nw3 t3 => ?_⟩
    replace F := (F.newL nw3).addP t3
    have wl := rowsN_len t3
    have zsl : zs.length < sizeLine := by rw [sizeLine_eq]; omega
    repeat k_meth
    refine ⟨n, l, ys, ts, rfl, n1, n2, hatC, by omega, gd, .inl ⟨TpA.e, fun p5 z5 H5 nw5 t5 => ?_⟩⟩
    replace F := (F.newL nw5).addP t5
    repeat k_meth
    have trv : TupsAt H_ ys.reverse (rowsN ts.reverse) := tupsN_rev TpA.e
    refine ⟨n, p_, ys.reverse, ts.reverse, rfl, n1, n2, hatC, by rw [List.length_reverse]; omega, good_rev gd, .inl ⟨trv, fun p6 z6 H6 nw6 t6 => ?_⟩⟩
    rw [← frF_perm gd.pc cf (us := ts.reverse) (fun t => List.mem_reverse.symm)] at t6
    replace F := (F.newL nw6).addP t6
    repeat k_meth
    exact k _ F.sm
end
open M44
theorem pc_small {n a b : Nat} (h : Pc n a b) : a ≤ n ∧ b ≤ n := by
  obtain ⟨k, rfl, _, h3⟩ := h
  omega
theorem tups_ins {H : Hp} {ya yb : List V} {q : Addr} {ts us : List (Nat × Nat)} {a b : Nat} (h : TupsAt H ya (rowsN ts)) (h2 : TupsAt H yb (rowsN us)) (hq : H q = some (.tup [.int (a : Nat), .int (b : Nat)])) : TupsAt H (ya ++ .ref q :: yb) (rowsN (ts ++ (a, b) :: us)) := by
  have e : ya ++ .ref q :: yb = (ya ++ [.ref q]) ++ yb := by simp
  have e2 : ts ++ (a, b) :: us = (ts ++ [(a, b)]) ++ us := by simp
  rw [e, e2]
  refine tups_app ?_ h2
  rw [rowsN_snoc]
  exact TupsAt.snoc h hq
theorem tupsN_drop {H : Hp} {ys : List V} {ts : List (Nat × Nat)} (h : TupsAt H ys (rowsN ts)) (k : Nat) : TupsAt H (ys.drop k) (rowsN (ts.drop k)) := by
  rw [show rowsN (ts.drop k) = (rowsN ts).drop k by unfold rowsN; rw [List.map_drop]]
  refine ⟨by rw [List.length_drop, List.length_drop, h.1], fun j r e => ?_⟩
  rw [List.getElem?_drop] at e ⊢
  exact h.2 _ r e
theorem tups_split {H : Hp} {ys : List V} {pre r : List (Nat × Nat)} {w : Nat × Nat} (h : TupsAt H ys (rowsN (pre ++ w :: r))) : ∃ ya q rest, ys = ya ++ .ref q :: rest ∧ TupsAt H ya (rowsN pre) ∧ H q = some (.tup [.int (w.1 : Nat), .int (w.2 : Nat)]) := by
  have hl := rowsN_len h
  rw [List.length_append, List.length_cons] at hl
  have hi : pre.length < ys.length := by omega
  obtain ⟨w2, q, e1, e2, e3⟩ := rowsN_at h (i := pre.length) (v := ys[pre.length]) (List.getElem?_eq_getElem hi)
  rw [List.getElem?_append_right (Nat.le_refl _), Nat.sub_self] at e1
  cases e1
  refine ⟨ys.take pre.length, q, ys.drop (pre.length + 1), ?_, ?_, e3⟩
  · rw [← e2, ← List.drop_eq_getElem_cons hi, List.take_append_drop]
  · have := tupsN_take h pre.length
    rw [← rowsN_take, List.take_left] at this
    exact this
theorem good_pre {n : Nat} {ts : List (Nat × Nat)} (h : GoodT n ts) (j : Nat) : GoodT n (ts.take j) := by
  obtain ⟨h1, h2⟩ := good_pw.mp h
  exact good_pw.mpr ⟨fun t ht => h1 t (List.mem_of_mem_take ht), h2.sublist (List.take_sublist ..)⟩
theorem split_good {n : Nat} : ∀ (rest pre : List (Nat × Nat)), GoodT n pre → GoodT n (pre ++ rest) ∨ ∃ p w r, pre ++ rest = p ++ w :: r ∧ GoodT n p ∧ ¬ FpV n (.int (w.1 : Nat)) (.int (w.2 : Nat)) p
  | [], pre, h => .inl (by rw [List.append_nil]; exact h)
  | w :: r, pre, h => by
    by_cases hf : FpV n (.int (w.1 : Nat)) (.int (w.2 : Nat)) pre
    · obtain ⟨pc, hm⟩ := fpv_iff.mp hf
      have := split_good r (pre ++ [w]) (good_snoc h pc (by rw [List.any_eq_false]; exact fun t ht => by rw [hm t ht]; decide))
      rw [List.append_assoc] at this
      exact this
    · exact .inr ⟨pre, w, r, rfl, h, hf⟩
def sp_law (K : PySem.W.Frag) : Sp := fun vs H Q _ => ∃ (a : Addr) (ns : List Int), vs = [.ref a] ∧ SqL K H a (ns.map V.int) ∧ ns.length ≤ 63 ∧ ∀ H', Q (.bl true) H'
section
variable {P : Program} {w : World} {K : PySem.W.Frag} {mg : Str → Option Value} {base : Heap} {c : Nat → Addr} {R  : Addr}
theorem ok_law (T : Txt K mg c R ) {f : Addr} {fd : FuncData} (F : Fun K "law" "law" s_law f fd) : FnOk P w K mg base CX0 21 f fd ["_law_script"] (sp_law K) := by
  have D_lmany := D_lmany (P := P) (w := w) (base := base) T
  have D_lcell := D_lcell (P := P) (w := w) (base := base) T
  have D_ldraws := D_ldraws (P := P) (w := w) (base := base) T
  have D_ldue := D_ldue (P := P) (w := w) (base := base) T
  have D_ldrawn := D_ldrawn (P := P) (w := w) (base := base) T
  have D_ltold := D_ltold (P := P) (w := w) (base := base) T
  have D_lrefused := D_lrefused (P := P) (w := w) (base := base) T
  have D_lmeets := D_lmeets (P := P) (w := w) (base := base) T
  have D_lspoil := D_lspoil (P := P) (w := w) (base := base) T
  refine fnok_of F sc_law (fun vs H Q E h => ?_) (fun cdv A outer s H vs Q E hr h => ?_)
  · obtain ⟨a, ns, rfl, _⟩ := h
    rfl
  · obtain ⟨a, ns, rfl, hS, hl, k⟩ := h
    have nd := sc_law.nd
    refine ⟨_, (pss_cons (ps_set (i := 1) nd rfl (Or.inl rfl) (pe_def D_lmany hr (pa_cons (pe_def D_lcell hr (pa_cons (pv 0) (pa_cons pe_int pa_nil))) pa_nil)))
      (pss_cons (ps_set (i := 2) nd rfl (Or.inl rfl) (pe_lstA pa_nil))
      (pss_cons (ps_for PassesOwn.never rfl (pi_list (pe_slice sl_listA (pv 0) (po_some pe_int) (po_some pe_int))) (pg_name (i := 3) nd rfl (Or.inl rfl)) (pss_cons (ps_set (i := 4) nd rfl (Or.inl rfl) (pe_def D_ldrawn hr (pa_cons (pv 1) (pa_cons (pv 3) pa_nil))))
        (pss_one (ps_if (pt_not (pt_val (pe_def D_lmeets hr (pa_cons (pv 4) (pa_cons (pv 2) pa_nil))))) (pss_one (ps_expr (pe_appendA (pv 2) (pv 4)))) pss_nil))))
      (pss_cons (ps_if (pt_not (pt_val (pe_def D_ltold hr (pa_cons (pv 1) (pa_cons (pv 2) pa_nil))))) (pss_one (ps_ret pe_bl)) pss_nil)
      (pss_cons (ps_set (i := 5) nd rfl (Or.inl rfl) (pe_def D_lcell hr (pa_cons (pv 0) (pa_cons pe_int pa_nil))))
      (pss_cons (ps_asg (pe_def D_ldraws hr (pa_cons (pe_op op_fdiv (pv 5) pe_int) (pa_cons pe_int pa_nil))) (pg_lst rfl (pgs_cons (pg_name (i := 6) nd rfl (Or.inl rfl)) (pgs_cons (pg_name (i := 7) nd rfl (Or.inl rfl)) (pgs_cons (pg_name (i := 8) nd rfl (Or.inl rfl)) pgs_nil)))))
      (pss_cons (ps_set (i := 9) nd rfl (Or.inl rfl) (pe_callTy call_list_ofA rfl T.n_list boot_list (pa_cons (pv 2) pa_nil)))
      (pss_cons (ps_if (pt_cmpR op_gt (pe_op op_mod (pv 6) pe_int) pe_int (nomark _)) (pss_one (ps_expr (pe_insA (pv 9) (pe_op op_mod (pv 7) (pe_op op_add (pe_callB call_lenN rfl T.n_len boot_len (pa_cons (pv 2) pa_nil)) pe_int)) (pe_def D_lspoil hr (pa_cons (pv 2) (pa_cons (pv 1) (pa_cons (pv 5) pa_nil))))))) pss_nil)
      (pss_cons (ps_set (i := 10) nd rfl (Or.inl rfl) (pe_def D_ldue hr (pa_cons (pv 1) (pa_cons (pv 9) pa_nil))))
      (pss_cons (ps_if (pt_cmpR op_isNN (pv 10) pe_non (nomark _)) (pss_one (ps_ret (pe_def D_ltold hr (pa_cons (pv 1) (pa_cons (pv 9) pa_nil))))) pss_nil)
      (pss_one (ps_ret (pe_and (pe_def D_lrefused hr (pa_cons (pv 1) (pa_cons (pv 9) (pa_cons (pv 10) pa_nil)))) (pe_one (pe_def D_ltold hr (pa_cons (pv 1) (pa_cons (pv 2) pa_nil))))))))))))))))), ?_⟩
    clear nd D_lmany D_lcell D_ldraws D_ldue D_ldrawn D_ltold D_lrefused D_lmeets D_lspoil
    rw [show start ["_law_script", "_law_many_here", "_law_rows_here", "_law_cell_here", "_law_row", "_law_spoiler_here", "_law_kind", "_law_place", "_law_second", "_law_spoilt", "_law_due_here"] [.ref a] = [some (.ref a), none, none, none, none, none, none, none, none, none, none] from rfl]
    try dsimp only [cx_K, cx_K2]
    have F : SH H [] H [] [] := SH.nil
    have o_hS := OldQ.mk (M := []) hS nm0
    repeat k_meth
    refine ⟨a, ns, 0, rfl, SqA.e, fun c0 => ?_⟩
    repeat k_meth
    refine ⟨c0, rfl, fun n H1 n1 n2 s1 => ?_⟩
    replace F := F.same s1
    repeat k_meth
    rename_i rl
    obtain ⟨sl, e_⟩ : ∃ q, q = p_ := ⟨_, rfl⟩
    subst e_
    have cl := cutV_length (ns.map V.int) (some 2) (some 63)
    rw [List.length_map] at cl
    have ci : ∀ v ∈ cutV (ns.map V.int) (some 2) (some 63), ∃ z : Int, v = .int z := fun v hv => by
      obtain ⟨z, _, rfl⟩ := List.mem_map.mp (List.mem_of_mem_drop (List.mem_of_mem_take hv))
      exact ⟨z, rfl⟩
    generalize cutV (ns.map V.int) (some 2) (some 63) = xs at *
    refine forL_by (xs := xs) (fun i σ' H' => ∃ (o3 o4 : Option V) (ts : List (Nat × Nat)) (ys : List V), σ' = [some (.ref a), some (.int (n : Nat)), some (.ref rl), o3, o4, none, none, none, none, none, none] ∧ GoodT n ts ∧ ts.length ≤ i ∧ ys.length = ts.length ∧ SH H [] H' [(rl, .lst ys), (sl, .lst xs)] [.tps ys (rowsN ts)]) ⟨_, _, [], [], rfl, (fun i w e => by simp at e), by simp, rfl, (F.addP (ys := []) (rs := rowsN []) TupsAt.nil).sub SbC.s (by simp)⟩ ?_ ?_ ?_
    · clear F
      rintro i σ' H' hi ⟨_, _, ts, ys, rfl, gd, tl, yl, F⟩
      exact SqA.e
    · clear F
      rintro i v σ' H' hv ⟨_, _, ts, ys, rfl, gd, tl, yl, F⟩
      obtain ⟨z, rfl⟩ := ci v (List.mem_of_getElem? hv)
      have il := (List.getElem?_eq_some_iff.mp hv).1
      have ysl : ys.length < sizeLine := by rw [sizeLine_eq]; omega
      repeat k_meth
      refine ⟨n, z, rfl, n1, n2, fun a2 b2 q H2 pc s2 hq => ?_⟩
      replace F := (F.same s2).addT hq
      repeat k_meth
      cases hm : ts.any (meetB a2 b2) with
      | true =>
        repeat k_meth
        exact ⟨_, _, ts, ys, rfl, gd, by omega, yl, F.sub SbC.s (by simp)⟩
      | false =>
        repeat k_meth
        have tt : TupsAt H_ (ys ++ [.ref q]) (rowsN (ts ++ [(a2, b2)])) := by
          rw [rowsN_snoc]
          exact TupsAt.snoc TpA.e hatC
        exact ⟨_, _, ts ++ [(a2, b2)], ys ++ [.ref q], rfl, good_snoc gd pc hm, by rw [List.length_append]; simp only [List.length_cons, List.length_nil]; omega, by rw [List.length_append, List.length_append, yl]; rfl, (F.addP tt).sub SbC.s (by simp)⟩
    · clear F
      rintro σ' H' ⟨o3, o4, ts, ys, rfl, gd, tl, yl, F⟩
      repeat k_meth
      refine ⟨n, rl, ys, ts, rfl, n1, n2, hatC, TpA.e, gd, by omega, fun H5 s5 => ?_⟩
      replace F := F.same s5
      repeat k_meth
      refine ⟨a, ns, 1, rfl, SqA.e, fun c1 => ?_⟩
      repeat k_meth
      refine ⟨c1 / 7, 3, rfl, by decide, fun ds p H6 hl6 hd nw => ?_⟩
      obtain ⟨x, y, z, rfl⟩ : ∃ x y z, ds = [x, y, z] := match ds, hl6 with | [x, y, z], _ => ⟨x, y, z, rfl⟩
      replace F := F.newL nw
      refine go_l3 (a := .int x) (b := .int y) (c := .int z) (σ' := [some (.ref a), some (.int (n : Nat)), some (.ref rl), o3, o4, some (.int c1), some (.int x), some (.int y), some (.int z), none, none]) (SqL.of nw.e) rfl ?_
      repeat k_meth
      obtain ⟨sp, e_⟩ : ∃ q, q = p_ := ⟨_, rfl⟩
      subst e_
      refine i_dec (fun h => ?_) (fun h => ?_)
      · repeat k_meth
        obtain ⟨H6b, e_⟩ : ∃ q, q = H_ := ⟨_, rfl⟩
        subst e_
        have hsp : H6b sp = some (.lst ys) := hatC
        refine ⟨rl, n, c1, ys, ts, rfl, hatC, TpA.e, n2, by omega, fun t ht => by have := pc_small (gd.pc t ht); omega, fun q v u d1 d2 H7 s7 hq th1 th2 fr => ?_⟩
        replace F := (F.same s7).addT hq
        have m1 := Int.emod_nonneg y (show (ys.length : Int) + 1 ≠ 0 by omega)
        have m2 := Int.emod_lt_of_pos y (show 0 < (ys.length : Int) + 1 by omega)
        repeat k_meth
        refine ⟨sp, ys, _, .ref q, rfl, rfl, hatC, ⟨m1, by omega, by omega⟩, fun H8 off e8 => ?_⟩
        obtain ⟨j, hj⟩ : ∃ j, j = (y % ((ys.length : Int) + 1)).toNat := ⟨_, rfl⟩
        rw [← hj] at e8
        have jl : j ≤ ys.length := by omega
        obtain ⟨nv, nu⟩ := fr sp _ hsp
        have t1 : ThD H8 v d1 := th1.kept fun x9 y9 e9 h9 => by rw [off x9 fun z => nv (by rw [e9, z])]; exact h9
        have t2 : ThD H8 u d2 := th2.kept fun x9 y9 e9 h9 => by rw [off x9 fun z => nu (by rw [e9, z])]; exact h9
        replace F := F.offL off e8 LkU.u
        have tp8 : TupsAt H8 ys (rowsN ts) := TpA.e
        have hq8 : H8 q = some (.tup [v, u]) := hatC
        have tpj : TupsAt H8 (ys.take j) (rowsN (ts.take j)) := by rw [rowsN_take]; exact tupsN_take tp8 j
        have ysl9 : (ys.take j ++ V.ref q :: ys.drop j).length ≤ 1000 := by
          rw [List.length_append, List.length_cons, List.length_take, List.length_drop]
          omega
        have gpj := good_pre gd j
        obtain ⟨ty1, tv1⟩ := t1.ty (K := K)
        obtain ⟨ty2, tv2⟩ := t2.ty (K := K)
        repeat k_meth
        by_cases nf : FpV n v u (ts.take j)
        · obtain ⟨a9, b9, rfl, rfl, pc9, hm9⟩ := id nf
          have tdr : TupsAt H8 (ys.drop j) (rowsN (ts.drop j)) := tupsN_drop tp8 j
          have tall : TupsAt H8 (ys.take j ++ V.ref q :: ys.drop j) (rowsN (ts.take j ++ (a9, b9) :: ts.drop j)) := tups_ins tpj tdr hq8
          have gp1 : GoodT n (ts.take j ++ [(a9, b9)]) := good_snoc gpj pc9 (by rw [List.any_eq_false]; exact fun t ht => by rw [hm9 t ht]; decide)
          have sg := split_good (ts.drop j) _ gp1
          rw [List.append_assoc] at sg
          rcases sg with ga | ⟨pre, w, r, es, gp, nw9⟩
          · refine ⟨n, sp, _, _, rfl, n1, n2, hatC, ysl9, ga, .inl ⟨tall, fun H9 s9 => ?_⟩⟩
            replace F := F.same s9
            repeat k_meth
            refine ⟨n, sp, _, _, rfl, n1, n2, hatC, tall.same s9, ga, by rw [List.length_append, List.length_cons, List.length_take, List.length_drop]; omega, fun H10 s10 => ?_⟩
            replace F := F.same s10
            repeat k_meth
            exact k _
          · have es2 : ts.take j ++ (a9, b9) :: ts.drop j = pre ++ w :: r := es
            have wm : w ∈ ts.take j ++ (a9, b9) :: ts.drop j := by rw [es2]; simp
            have wpc : Pc n w.1 w.2 := by
              rcases List.mem_append.mp wm with h9 | h9
              · exact gd.pc w (List.mem_of_mem_take h9)
              · rcases List.mem_cons.mp h9 with rfl | h9
                · exact pc9
                · exact gd.pc w (List.mem_of_mem_drop h9)
            have wsm := pc_small wpc
            rw [es2] at tall
            obtain ⟨ya, qb, rest, ey, tpa, hqb⟩ := tups_split tall
            refine ⟨n, sp, _, pre, rfl, n1, n2, hatC, ysl9, gp, .inr ⟨qb, _, _, "int", "int", ya, rest, ey, tpa, hqb, .int _, .int _, nw9, fun H9 s9 => ?_⟩⟩
            replace F := F.same s9
            repeat k_meth
            refine ⟨n, sp, qb, _, pre, _, _, _, _, ya, rest, rfl, n1, n2, hatC, ysl9, gp, ey, tpa.same s9, s9 _ _ hqb, th_int (by omega), th_int (by omega), nw9, fun H10 s10 => ?_⟩
            replace F := F.same s10
            repeat k_meth
            refine ⟨n, rl, ys, ts, rfl, n1, n2, hatC, TpA.e, gd, by omega, fun H11 s11 => ?_⟩
            replace F := F.same s11
            repeat k_meth
            exact k _
        · refine ⟨n, sp, _, ts.take j, rfl, n1, n2, hatC, ysl9, gpj, .inr ⟨q, v, u, ty1, ty2, ys.take j, ys.drop j, rfl, tpj, hatC, tv1, tv2, nf, fun H9 s9 => ?_⟩⟩
          replace F := F.same s9
          repeat k_meth
          refine ⟨n, sp, q, _, ts.take j, v, u, d1, d2, ys.take j, ys.drop j, rfl, n1, n2, hatC, ysl9, gpj, rfl, tpj.same s9, hatC, t1.kept fun x9 y9 _ h9 => s9 _ _ h9, t2.kept fun x9 y9 _ h9 => s9 _ _ h9, nf, fun H10 s10 => ?_⟩
          replace F := F.same s10
          repeat k_meth
          refine ⟨n, rl, ys, ts, rfl, n1, n2, hatC, TpA.e, gd, by omega, fun H11 s11 => ?_⟩
          replace F := F.same s11
          repeat k_meth
          exact k _
      · repeat k_meth
        refine ⟨n, sp, ys, ts, rfl, n1, n2, hatC, by omega, gd, .inl ⟨TpA.e, fun H9 s9 => ?_⟩⟩
        replace F := F.same s9
        repeat k_meth
        refine ⟨n, sp, ys, ts, rfl, n1, n2, hatC, TpA.e, gd, by omega, fun H10 s10 => ?_⟩
        replace F := F.same s10
        repeat k_meth
        exact k _
end
end K44
namespace K44
open PySem L2 PyProof.Rows
abbrev LkH (K : PySem.W.Frag) (g : Addr) (m q : Str) (st : Stmt) (xd xn : Option Addr) (xs : Array (Option Value)) (xo xk xe xp xc xt : Value) : Prop := K.lookup g = some ⟨xo, xd, .func (PySem.W.fnOf m q (defArgs st) (defBody st) (defScope st) .none xk xe xp xn xc xt), xs⟩ ∧ PySem.W.codeIn K xc q = true ∧ PySem.W.keepIn K (.ref g) = true
abbrev DfH (K : PySem.W.Frag) (m : Str) (st : Stmt) : Prop := ∃ g xd xn xs xo xk xe xp xc xt, PySem.W.nsIn K mainGlobals m = some (some (.ref g)) ∧ LkH K g m m st xd xn xs xo xk xe xp xc xt
abbrev MeH (K : PySem.W.Frag) (C : Addr) (m q : Str) (st : Stmt) : Prop := ∃ g xd xn xs xo xk xe xp xc xt, PySem.W.findIn K (.ref C) m = some (some (.ref g)) ∧ PySem.W.isFn K (.ref g) = true ∧ LkH K g m q st xd xn xs xo xk xe xp xc xt
abbrev CdH (K : PySem.W.Frag) (C : Addr) (m q : Str) (st : Stmt) : Prop := ∃ g xd xn xs xo xk xe xp xc xt, PySem.W.specialIn K (.ref C) "__getattribute__" = some (some (.builtin "type.__getattribute__")) ∧ PySem.W.readsIn K C (.type "type") = true ∧ PySem.W.findCls K (.ref C) (.type "type") m = some (.val (.ref g)) ∧ LkH K g m q st xd xn xs xo xk xe xp xc xt
abbrev ClH (K : PySem.W.Frag) (C : Addr) : Prop := PySem.W.plainGet K C Str.empty = true ∧ PySem.W.hasDictIn K C = true ∧ PySem.W.plainOver K C = true ∧ PySem.W.findIn K (.ref C) "__setattr__" = some (some (.builtin "object.__setattr__")) ∧ PySem.W.makesIn K C = true ∧ PySem.W.keepIn K (.ref C) = true
section
variable {K : PySem.W.Frag} {h : Heap} {mg : Str → Option Value} {C : Addr} {m q : Str} {st : Stmt}
theorem DfH.has (d : DfH K m st) (X : K.In h) (G : h.Ns mainGlobals mg) : HasDef K mg m st := let ⟨_, _, _, _, _, _, _, _, _, _, a, l, c, k⟩ := d; HasDef.mk (PySem.W.mg_of X G a) l c k
theorem MeH.mk (d : MeH K C "__init__" q st) (c : ClH K C) : ∃ f, FnAt K "__init__" q st f ∧ Mk K C f := let ⟨g, _, _, _, _, _, _, _, _, _, a, f, l, cd, k⟩ := d; ⟨g, ⟨_, fun_mk (st := st) l cd k⟩, ⟨c.2.2.2.2.1, a, f, c.2.2.2.2.2⟩⟩
theorem CdH.cd (d : CdH K C m q st) : ∃ f, FnAt K m q st f ∧ CMeth K C m f := let ⟨g, _, _, _, _, _, _, _, _, _, a, r, f, l, c, k⟩ := d; ⟨g, ⟨_, fun_mk (st := st) l c k⟩, ⟨a, r, f, by rfl, k⟩⟩
end
theorem all_mk {l : PySem.W.OpenLaw} {w : World} {K : PySem.W.Frag} {h : Heap} {mg : Str → Option Value} {fa g28_ : Addr} (X : K.In h) (G : h.Ns mainGlobals mg) (hfa : mg "law" = some (.ref fa))
    {R : Addr}
    (eR : PySem.W.nsIn K mainGlobals "RoomError" = some (some (.ref R)))
    (eh : PySem.W.specialIn K (.builtin "object.__class__") "__get__" = some (some (.builtin "getset_descriptor.__get__")))
    (et : PySem.W.takesIn K (.builtin "object.__class__") = some true)
    {C0 N0 x0 : Addr} {nm0 q0 : Str} {bs0 : List Value} {sn0 : List Str} {sub0 : List Value} {ab0 : Bool} {col0 : Option Bool} {dd0 : Option Addr} {k00_ k10_ k20_ k30_ k50_ : Option Value}
    (ea0 : PySem.W.nsIn K mainGlobals "NoMany" = some (some (.ref C0)))
    (el0 : K.lookup C0 = some (excClassObj nm0 q0 C0 N0 bs0 [.ref R, .type "ValueError", .type "Exception", .type "BaseException", .type "object"] true sn0 sub0 ab0 col0 dd0 k00_ k10_ k20_ k30_ k50_ "ValueError.__new__"))
    {xd0 xn0 : Option Addr} {xs0 : Array (Option Value)} {xk0 xo0 xp0 xc0 xt0 : Value}
    (ei0 : PySem.W.findIn K (.ref C0) "__init__" = some (some (.ref x0)))
    (ef0 : K.lookup x0 = some ⟨.type "function", xd0, .func (PySem.W.fnOf "__init__" "NoMany.__init__" (defArgs i_NoMany) (defBody i_NoMany) (defScope i_NoMany) .none xk0 xo0 xp0 xn0 xc0 xt0), xs0⟩)
    (ec0 : PySem.W.codeIn K xc0 "NoMany.__init__" = true) (ek0 : PySem.W.keepIn K (.ref x0) = true) (es0 : PySem.W.findIn K (.ref C0) "__setattr__" = some (some (.builtin "object.__setattr__")))
    (em0 : PySem.W.keepIn K (.ref C0) = true) (eg0 : PySem.W.findIn K (.ref C0) "__getattribute__" = some (some (.builtin "BaseException.__getattribute__"))) (eb0 : PySem.W.findIn K (.ref C0) "__getattr__" = some none) (ej0 : PySem.W.findIn K (.ref C0) "__class__" = some (some (.builtin "object.__class__")))
    (en0_0 : PySem.W.findIn K (.ref C0) "many" = some none)
    {C1 N1 x1 : Addr} {nm1 q1 : Str} {bs1 : List Value} {sn1 : List Str} {sub1 : List Value} {ab1 : Bool} {col1 : Option Bool} {dd1 : Option Addr} {k01_ k11_ k21_ k31_ k51_ : Option Value}
    (ea1 : PySem.W.nsIn K mainGlobals "NotFree" = some (some (.ref C1)))
    (el1 : K.lookup C1 = some (excClassObj nm1 q1 C1 N1 bs1 [.ref R, .type "ValueError", .type "Exception", .type "BaseException", .type "object"] true sn1 sub1 ab1 col1 dd1 k01_ k11_ k21_ k31_ k51_ "ValueError.__new__"))
    {xd1 xn1 : Option Addr} {xs1 : Array (Option Value)} {xk1 xo1 xp1 xc1 xt1 : Value}
    (ei1 : PySem.W.findIn K (.ref C1) "__init__" = some (some (.ref x1)))
    (ef1 : K.lookup x1 = some ⟨.type "function", xd1, .func (PySem.W.fnOf "__init__" "NotFree.__init__" (defArgs i_NotFree) (defBody i_NotFree) (defScope i_NotFree) .none xk1 xo1 xp1 xn1 xc1 xt1), xs1⟩)
    (ec1 : PySem.W.codeIn K xc1 "NotFree.__init__" = true) (ek1 : PySem.W.keepIn K (.ref x1) = true) (es1 : PySem.W.findIn K (.ref C1) "__setattr__" = some (some (.builtin "object.__setattr__")))
    (em1 : PySem.W.keepIn K (.ref C1) = true) (eg1 : PySem.W.findIn K (.ref C1) "__getattribute__" = some (some (.builtin "BaseException.__getattribute__"))) (eb1 : PySem.W.findIn K (.ref C1) "__getattr__" = some none) (ej1 : PySem.W.findIn K (.ref C1) "__class__" = some (some (.builtin "object.__class__")))
    (en1_0 : PySem.W.findIn K (.ref C1) "start" = some none)
    (en1_1 : PySem.W.findIn K (.ref C1) "size" = some none)
    {od28_ an28_ : Option Addr} {sl28_ : Array (Option Value)} {oc28_ kV28_ dc28_ pm28_ cd28_ ct28_ : Value}
    (d0_ : DfH K "is_whole" s_is_whole)
    (d1_ : DfH K "is_from" s_is_from)
    (d2_ : DfH K "is_within" s_is_within)
    (d3_ : DfH K "is_many" s_is_many)
    (d4_ : DfH K "end_of" s_end_of)
    (d5_ : DfH K "share_cells" s_share)
    (d6_ : DfH K "rounded" s_rounded)
    (d7_ : DfH K "greatest_power" s_gpow)
    (d8_ : DfH K "wholes_of" s_wholes)
    (d9_ : DfH K "is_cut_from" s_cut)
    (d10_ : DfH K "is_piece" s_piece)
    (d11_ : DfH K "is_free_piece" s_fpiece)
    (d12_ : DfH K "free_within" s_fwithin)
    (d13_ : DfH K "free_pieces" s_fpieces)
    (d14_ : DfH K "pieces_of" s_pieces)
    (d15_ : DfH K "_law_cell" s_lcell)
    (d16_ : DfH K "_law_draws" s_ldraws)
    (d17_ : DfH K "_law_whole" s_lwhole)
    (d18_ : DfH K "_law_rows" s_lrows)
    (d19_ : DfH K "_law_many" s_lmany)
    (d20_ : DfH K "_law_free" s_lfree)
    (d21_ : DfH K "_law_piece" s_lpiece)
    (d22_ : DfH K "_law_meets" s_lmeets)
    (d23_ : DfH K "_law_drawn" s_ldrawn)
    (d24_ : DfH K "_law_spoiler" s_lspoil)
    (d25_ : DfH K "_law_due" s_ldue)
    (d26_ : DfH K "_law_refused" s_lrefused)
    (d27_ : DfH K "_law_told" s_ltold)
    (a28_ : PySem.W.nsIn K mainGlobals "law" = some (some (.ref g28_))) (l28_ : K.lookup g28_ = some ⟨oc28_, od28_, .func (PySem.W.fnOf "law" "law" (defArgs s_law) (defBody s_law) (defScope s_law) .none kV28_ dc28_ pm28_ an28_ cd28_ ct28_), sl28_⟩) (c28_ : PySem.W.codeIn K cd28_ "law" = true) (k28_ : PySem.W.keepIn K (.ref g28_) = true)
    (nb0 : PySem.W.nsIn K mainGlobals "isinstance" = some none)
    (nb1 : PySem.W.nsIn K mainGlobals "int" = some none)
    (nb2 : PySem.W.nsIn K mainGlobals "bool" = some none)
    (nb3 : PySem.W.nsIn K mainGlobals "list" = some none)
    (nb4 : PySem.W.nsIn K mainGlobals "tuple" = some none)
    (nb5 : PySem.W.nsIn K mainGlobals "len" = some none)
    (nb6 : PySem.W.nsIn K mainGlobals "any" = some none)
    (nb7 : PySem.W.nsIn K mainGlobals "range" = some none)
    (nb8 : PySem.W.nsIn K mainGlobals "max" = some none)
    (nb9 : PySem.W.nsIn K mainGlobals "sum" = some none)
    (nb10 : PySem.W.nsIn K mainGlobals "repr" = some none)
    {tk0 : Tok} (con0 : PySem.W.nsIn K mainGlobals "FEWEST_CELLS" = some (some (.int 16 tk0)))
    {tk1 : Tok} (con1 : PySem.W.nsIn K mainGlobals "MOST_CELLS" = some (some (.int 240 tk1)))
    {nmR qR : Str} {NR : Addr} {bsR bmR : List Value} {hdR : Bool} {snR : List Str} {subR : List Value} {abR : Bool} {colR : Option Bool} {ddR : Option Addr} {k0R k1R k2R k3R k5R : Option Value} {newR : String}
    (zc : K.lookup R = some (excClassObj nmR qR R NR bsR bmR hdR snR subR abR colR ddR k0R k1R k2R k3R k5R newR)) (zt : PySem.W.typeIn K (.ref R) = some (.type "type")) (zm : PySem.W.mroIn K R (.type "BaseException") = some true)
    : ∃ fd : FuncData, (∀ (s : Shared) (v : Value), BindsTo s fd ⟨[v], []⟩ [("_law_script", v)]) ∧ ∀ base : Heap, K.In base → base.Ns mainGlobals mg → FnOk l.prog w K mg base CX0 21 fa fd ["_law_script"] (sp_law K) := by
  have e := hfa.symm.trans (PySem.W.mg_of X G a28_)
  cases e
  have T : Txt K mg (fun i => ([C0, C1] : List Addr).getD i 0) R  := {
    e_NoMany := HasExc.mk1 (PySem.W.mg_of X G ea0) el0 ei0 ef0 ec0 ek0 em0 (excS_mk el0 es0) (excI_mk el0 eg0 eb0 ej0 eh et)
    k_NoMany := ⟨_, _, _, _, _, _, _, _, _, _, _, _, _, _, _, el0⟩
    a_NoMany_many := en0_0
    e_NotFree := HasExc.mk1 (PySem.W.mg_of X G ea1) el1 ei1 ef1 ec1 ek1 em1 (excS_mk el1 es1) (excI_mk el1 eg1 eb1 ej1 eh et)
    k_NotFree := ⟨_, _, _, _, _, _, _, _, _, _, _, _, _, _, _, el1⟩
    a_NotFree_start := en1_0
    a_NotFree_size := en1_1
    d_is_whole := d0_.has X G
    d_is_from := d1_.has X G
    d_is_within := d2_.has X G
    d_is_many := d3_.has X G
    d_end_of := d4_.has X G
    d_share := d5_.has X G
    d_rounded := d6_.has X G
    d_gpow := d7_.has X G
    d_wholes := d8_.has X G
    d_cut := d9_.has X G
    d_piece := d10_.has X G
    d_fpiece := d11_.has X G
    d_fwithin := d12_.has X G
    d_fpieces := d13_.has X G
    d_pieces := d14_.has X G
    d_lcell := d15_.has X G
    d_ldraws := d16_.has X G
    d_lwhole := d17_.has X G
    d_lrows := d18_.has X G
    d_lmany := d19_.has X G
    d_lfree := d20_.has X G
    d_lpiece := d21_.has X G
    d_lmeets := d22_.has X G
    d_ldrawn := d23_.has X G
    d_lspoil := d24_.has X G
    d_ldue := d25_.has X G
    d_lrefused := d26_.has X G
    d_ltold := d27_.has X G
    n_isinstance := PySem.W.mg_none_of X G nb0
    n_int := PySem.W.mg_none_of X G nb1
    n_bool := PySem.W.mg_none_of X G nb2
    n_list := PySem.W.mg_none_of X G nb3
    n_tuple := PySem.W.mg_none_of X G nb4
    n_len := PySem.W.mg_none_of X G nb5
    n_any := PySem.W.mg_none_of X G nb6
    n_range := PySem.W.mg_none_of X G nb7
    n_max := PySem.W.mg_none_of X G nb8
    n_sum := PySem.W.mg_none_of X G nb9
    n_repr := PySem.W.mg_none_of X G nb10
    g_FEWEST_CELLS := ⟨_, PySem.W.mg_of X G con0, ⟨_, rfl⟩⟩
    g_MOST_CELLS := ⟨_, PySem.W.mg_of X G con1, ⟨_, rfl⟩⟩
    g_R := PySem.W.mg_of X G eR
    c_R := by unfold PySem.W.clsIn; rw [zc]; rfl
    t_R := zt
    m_R := zm
 }
  refine ⟨PySem.W.fnOf "law" "law" (defArgs s_law) (defBody s_law) (defScope s_law) .none kV28_ dc28_ pm28_ an28_ cd28_ ct28_, fun s v => .of_eq rfl, fun base _ _ => ?_⟩
  exact ok_law T (fun_mk (st := s_law) l28_ c28_ k28_)
theorem walk {l : PySem.W.OpenLaw} {q : Program} {loose : List Str} {XP : (Str → Option Value) → Heap → Prop} {YP : World → Heap → Prop} {d : DefRec} {K : Params → PySem.W.Frag} (hn : l.most = some 63) (hdf : d.params.defaults = [])
    (hY : ∀ (w : World) (h : Heap), YP w h → (K w.params).In h)
    (F : ∀ (w : World) (mg : Str → Option Value) (fa : Addr) (h : Heap), (K w.params).In h → h.Ns mainGlobals mg → mg d.name = some (.ref fa) →
      ∃ fd : FuncData, (∀ (s : Shared) (u : Value), BindsTo s fd ⟨[u], []⟩ [("_law_script", u)]) ∧ ∀ base : Heap, (K w.params).In base → base.Ns mainGlobals mg → FnOk l.prog w (K w.params) mg base CX0 21 fa fd ["_law_script"] (sp_law (K w.params))) :
    PySem.W.WalkO q loose XP YP l.row.toRowW d [] (fun f vs => PySem.call f vs) :=
  L2.walk_of (n := 63) (k := 21) (x := "_law_script") (CX := fun _ => CX0) (sp := fun w => sp_law (K w.params)) hn (by decide) hdf ⟨rfl, by decide, by decide, rfl⟩ hY F (fun _ _ a ns hl _ hS => ⟨a, ns, rfl, hS, hl, fun _ => rfl⟩) fun _ _ _ _ _ z => z
end K44
namespace PySem.W.Fast
def tw14036672049721070193:Unit:=()
def tw450321762400356411:Unit:=()
def tw938584863647933401:Unit:=()
def tw1008785358258480111:Unit:=()
def tw10118662110548744898:Unit:=()
def tw10305604884066603455:Unit:=()
def tw10317524006963934510:Unit:=()
def tw10345488627795896104:Unit:=()
def tw103585826977918686:Unit:=()
def tw10360933823866968993:Unit:=()
def tw1041493465699604606:Unit:=()
def tw10513576115043497738:Unit:=()
def tw10601942422703249705:Unit:=()
def tw10641308482265423142:Unit:=()
def tw10711067913063869890:Unit:=()
def tw10713525880688380081:Unit:=()
def tw10713790161202567127:Unit:=()
def tw10749938403844770532:Unit:=()
def tw107693787856623425:Unit:=()
def tw1081132131775783028:Unit:=()
def tw1085580098320446606:Unit:=()
def tw10900163311561540348:Unit:=()
def tw10914092798855443205:Unit:=()
def tw10965047009318806298:Unit:=()
def tw11026614037718045702:Unit:=()
def tw11131682172808887964:Unit:=()
def tw11206899395979457163:Unit:=()
def tw11339081065527386643:Unit:=()
def tw11366993212766067847:Unit:=()
def tw11374444867961764340:Unit:=()
def tw11436165067405656164:Unit:=()
def tw11542347274933257274:Unit:=()
def tw11571340809292090578:Unit:=()
def tw11705209434672891842:Unit:=()
def tw11812898268120528517:Unit:=()
def tw11887727825547343013:Unit:=()
def tw11908760198905545443:Unit:=()
def tw11995621847683202838:Unit:=()
def tw12059132345662903406:Unit:=()
def tw12086500115197620149:Unit:=()
def tw12142091042231253853:Unit:=()
def tw1217039103129723410:Unit:=()
def tw12266620351173819533:Unit:=()
def tw12404230295210257468:Unit:=()
def tw12415873659003086556:Unit:=()
def tw12426758017023140901:Unit:=()
def tw12502176012181960788:Unit:=()
def tw12524640512664490113:Unit:=()
def tw12612144465200077777:Unit:=()
def tw12652926212118862951:Unit:=()
def tw12706358171515724504:Unit:=()
def tw12706674098865193537:Unit:=()
def tw12744465304359914708:Unit:=()
def tw12827277289118312136:Unit:=()
def tw12944241041509140899:Unit:=()
def tw13013585874967713877:Unit:=()
def tw13057640140561700381:Unit:=()
def tw13064732130456885855:Unit:=()
def tw13243488501446766903:Unit:=()
def tw13367966155238757197:Unit:=()
def tw13442410857245319677:Unit:=()
def tw13616161953180672552:Unit:=()
def tw13782687832291689544:Unit:=()
def tw13839340537636583125:Unit:=()
def tw13874948039905131172:Unit:=()
def tw14055011551709936380:Unit:=()
def tw14105982065749809561:Unit:=()
def tw14157897882635002178:Unit:=()
def tw14204067007424681607:Unit:=()
def tw14368527136888940917:Unit:=()
def tw14405822187207819227:Unit:=()
def tw14506760299202507154:Unit:=()
def tw14557661916305106333:Unit:=()
def tw14643749522034800207:Unit:=()
def tw14729519047588172798:Unit:=()
def tw14777277580892196980:Unit:=()
def tw15152994260597910960:Unit:=()
def tw15155421881001954010:Unit:=()
def tw1522654552115376002:Unit:=()
def tw15256966834335376317:Unit:=()
def tw15286089640275749608:Unit:=()
def tw15292664222929508653:Unit:=()
def tw15305794677321169193:Unit:=()
def tw15308490441975684209:Unit:=()
def tw15310382902192378071:Unit:=()
def tw1532159623060004871:Unit:=()
def tw15334611576433967379:Unit:=()
def tw15378865990001615085:Unit:=()
def tw15468109986742946581:Unit:=()
def tw15472730063665828219:Unit:=()
def tw15486611552991921719:Unit:=()
def tw15597045533732519551:Unit:=()
def tw1574628286119144620:Unit:=()
def tw15799540706046331964:Unit:=()
def tw15807211234041295672:Unit:=()
def tw15848733083670294753:Unit:=()
def tw15857201753233801180:Unit:=()
def tw15937632378578171973:Unit:=()
def tw15975665409634701180:Unit:=()
def tw16006643000045550823:Unit:=()
def tw16088170908922797795:Unit:=()
def tw16118018453878797063:Unit:=()
def tw16118607557382985250:Unit:=()
def tw16125913493624278994:Unit:=()
def tw16188190810193817285:Unit:=()
def tw1635817031301042115:Unit:=()
def tw16376658252855134217:Unit:=()
def tw16597939256216098020:Unit:=()
def tw16785117410353294951:Unit:=()
def tw16797727887673216205:Unit:=()
def tw16837649291469586827:Unit:=()
def tw16923038236478947246:Unit:=()
def tw16935565651271260272:Unit:=()
def tw17033527134820506245:Unit:=()
def tw17050007841601657126:Unit:=()
def tw17061687490392685098:Unit:=()
def tw17064194574658391037:Unit:=()
def tw170708687664581621:Unit:=()
def tw17089298782938025251:Unit:=()
def tw17135033510194358680:Unit:=()
def tw17142234364826964676:Unit:=()
def tw17166366812320090202:Unit:=()
def tw17204201171317737788:Unit:=()
def tw17208091560044856079:Unit:=()
def tw17214245481263428994:Unit:=()
def tw17219941305298324404:Unit:=()
def tw17457665887015357276:Unit:=()
def tw17581586444760169800:Unit:=()
def tw17643893092247543713:Unit:=()
def tw17854791195428075441:Unit:=()
def tw17904383568491459439:Unit:=()
def tw17955525063450980553:Unit:=()
def tw17997326672282229512:Unit:=()
def tw18120695105120298094:Unit:=()
def tw1823231193780190482:Unit:=()
def tw18306076276897267365:Unit:=()
def tw18323536239029874490:Unit:=()
def tw18339612746590085686:Unit:=()
def tw18394175070169573649:Unit:=()
def tw18422148908009272159:Unit:=()
def tw1867388986556298951:Unit:=()
def tw1920013094005434620:Unit:=()
def tw204095920269934837:Unit:=()
def tw2145512371943722421:Unit:=()
def tw2153138893274649762:Unit:=()
def tw2249751739971913586:Unit:=()
def tw2377688939484634631:Unit:=()
def tw2379013705572266902:Unit:=()
def tw2460733388791516364:Unit:=()
def tw251835462384798953:Unit:=()
def tw2551636635319149941:Unit:=()
def tw2615690602838076763:Unit:=()
def tw2661803859347525372:Unit:=()
def tw2713556186170281665:Unit:=()
def tw283589337659584584:Unit:=()
def tw2854795832736984729:Unit:=()
def tw2873515518047961841:Unit:=()
def tw2892396162973089486:Unit:=()
def tw3026734865021353250:Unit:=()
def tw3192561726770543688:Unit:=()
def tw3259419036823896356:Unit:=()
def tw3291871129281173155:Unit:=()
def tw3341822137221898382:Unit:=()
def tw3364171133160924040:Unit:=()
def tw3415073315053057020:Unit:=()
def tw343698527157699296:Unit:=()
def tw3446020090391691740:Unit:=()
def tw3454742110836307804:Unit:=()
def tw3521982759057673379:Unit:=()
def tw3534034854434264304:Unit:=()
def tw35929060191550379:Unit:=()
def tw3601138032752510539:Unit:=()
def tw3626335777840869909:Unit:=()
def tw3759674805826832514:Unit:=()
def tw3763571621723992176:Unit:=()
def tw3944610027180601579:Unit:=()
def tw4041644123034325750:Unit:=()
def tw4048669590693526409:Unit:=()
def tw4061961107858856101:Unit:=()
def tw4191593975773281686:Unit:=()
def tw4254821521490113244:Unit:=()
def tw4330418032117148711:Unit:=()
def tw4368800602287674162:Unit:=()
def tw4386572466583603714:Unit:=()
def tw4440167452501379166:Unit:=()
def tw4473169483578305995:Unit:=()
def tw4497110358436974582:Unit:=()
def tw4507613484819887659:Unit:=()
def tw4522223322135343764:Unit:=()
def tw4573079857426829175:Unit:=()
def tw4577094193366170235:Unit:=()
def tw4669489910067788467:Unit:=()
def tw4742684825752459183:Unit:=()
def tw474357450810095554:Unit:=()
def tw4778190386852492988:Unit:=()
def tw4797020759057593563:Unit:=()
def tw4840901066972396691:Unit:=()
def tw4862916723930985190:Unit:=()
def tw4964252499743494325:Unit:=()
def tw4967146747333512927:Unit:=()
def tw4989108626912354591:Unit:=()
def tw499173265265522341:Unit:=()
def tw5257724514589883133:Unit:=()
def tw5278710569390589386:Unit:=()
def tw5398253425930928420:Unit:=()
def tw5485399801082709464:Unit:=()
def tw5561781884272419734:Unit:=()
def tw5610434951102963015:Unit:=()
def tw5946785589059244588:Unit:=()
def tw600965835831484746:Unit:=()
def tw6139819057269423007:Unit:=()
def tw6156320910839514974:Unit:=()
def tw6172445518438367649:Unit:=()
def tw6194515506386022774:Unit:=()
def tw6202875688691965166:Unit:=()
def tw6342017119280395314:Unit:=()
def tw6363477360428594054:Unit:=()
def tw6388685347894487534:Unit:=()
def tw6438350459676907908:Unit:=()
def tw6447918891574180308:Unit:=()
def tw6451200193194429912:Unit:=()
def tw6465174435019029207:Unit:=()
def tw6500663440917590609:Unit:=()
def tw6589749674542788449:Unit:=()
def tw6605258970172247373:Unit:=()
def tw6660706063843687673:Unit:=()
def tw6842106805298485838:Unit:=()
def tw6883471635850022385:Unit:=()
def tw6884011929121260336:Unit:=()
def tw6908594493638415940:Unit:=()
def tw6950310835688737698:Unit:=()
def tw7000235376202593376:Unit:=()
def tw7019293804585862276:Unit:=()
def tw7046157696121461978:Unit:=()
def tw7100568611558688553:Unit:=()
def tw71403085248939194:Unit:=()
def tw7223886404010329383:Unit:=()
def tw7280006987896295114:Unit:=()
def tw7432252605698882953:Unit:=()
def tw7441155516709713749:Unit:=()
def tw7624036430597042897:Unit:=()
def tw7664781584024932558:Unit:=()
def tw7685619814300372428:Unit:=()
def tw775987950581259304:Unit:=()
def tw777711671989542115:Unit:=()
def tw7794579928786448297:Unit:=()
def tw7795702960977701982:Unit:=()
def tw7920581090727939006:Unit:=()
def tw7970940491296324413:Unit:=()
def tw799603950670195033:Unit:=()
def tw8085494336330562646:Unit:=()
def tw8120913917798712045:Unit:=()
def tw813190078536525482:Unit:=()
def tw8221429275621891719:Unit:=()
def tw8236991945387391873:Unit:=()
def tw8237797883577814964:Unit:=()
def tw8474571848471243965:Unit:=()
def tw8493952825058512884:Unit:=()
def tw8505308361159266877:Unit:=()
def tw8540075422481165981:Unit:=()
def tw8554138479939961107:Unit:=()
def tw8573606305871456285:Unit:=()
def tw8593721490632085015:Unit:=()
def tw8633788866269106992:Unit:=()
def tw8707705863280650151:Unit:=()
def tw8734588423374910957:Unit:=()
def tw8808679437037954650:Unit:=()
def tw8847963412121995452:Unit:=()
def tw8893004799363043507:Unit:=()
def tw8928016539189566043:Unit:=()
def tw8970489436784200287:Unit:=()
def tw9026897003168620395:Unit:=()
def tw9031784966805021347:Unit:=()
def tw90337139902463781:Unit:=()
def tw9050099298392605087:Unit:=()
def tw9056138749155762751:Unit:=()
def tw9103964719352002138:Unit:=()
def tw9105997126134196456:Unit:=()
def tw9178444019968626435:Unit:=()
def tw9367694353539603070:Unit:=()
def tw9435667423591418873:Unit:=()
def tw9512506486935726914:Unit:=()
def tw9585114357952675361:Unit:=()
def tw9587642663441032480:Unit:=()
def tw960143665018202588:Unit:=()
def tw9622657321683111841:Unit:=()
def tw96523990369790604:Unit:=()
def tw9671125500941451010:Unit:=()
def tw9863722043473880594:Unit:=()
def tw9928045376225008473:Unit:=()
def tw9977398063561228981:Unit:=()
def tw11669772270286302088:Unit:=()
def tw12318021148840273588:Unit:=()
def tw17667503680844531475:Unit:=()
def tw17747560361225240457:Unit:=()
def tw17947827553313843041:Unit:=()
def tw2202609837411825600:Unit:=()
def tw9266873696681792781:Unit:=()
def tw10303783841803782373:Unit:=()
def tw1373682001069716735:Unit:=()
def tw16740440895605530950:Unit:=()
def tw2050620663464668232:Unit:=()
def tw6712231878038249358:Unit:=()
def tw797125451023367490:Unit:=()
def tw8126127356591043643:Unit:=()
def tw9074385929224988697:Unit:=()
def tw5882352165755012748:Unit:=()
end PySem.W.Fast
open PySem PySem.W PyProof.Rows
set_option maxRecDepth 100000 in
set_option maxHeartbeats 0 in
theorem PySem.Challenge.cw_slideroom_k44_pieces_made_anew_holds : PySem.Challenge.rw_slideroom_k44_pieces_made_anew.Holds := by
  w_on; o_law; k_head; (case hw => w_witness2)
  k_fill
  refine K44.walk (l := PySem.Challenge.rw_slideroom_k44_pieces_made_anew) rfl rfl (fun w h Y => PySem.W.kIn_of Y) ?F
  case F =>
    intro w mg fa h KX G hmg
    refine' K44.all_mk KX G hmg ?_ ?_ ?_ ?_ ?_ ?_ ?_ ?_ ?_ ?_ ?_ ?_ ?_ ?_ ?_ ?_ ?_ ?_ ?_ ?_ ?_ ?_ ?_ ?_ ?_ ?_ ?_ ?_ ?_ ?_ ?_ ?_ ?_ ?_ ?_ ?_ ?_ ?_ ?_ ?_ ?_ ?_ ?_ ?_ ?_ ?_ ?_ ?_ ?_ ?_ ?_ ?_ ?_ ?_ ?_ ?_ ?_ ?_ ?_ ?_ ?_ ?_ ?_ ?_ ?_ ?_ ?_ ?_ ?_ ?_ ?_ ?_ ?_ ?_ ?_ ?_
    all_goals try first
      | k_is
      | exact ⟨_, _, _, _, _, _, _, _, _, _, by k_is, by k_is, by k_is, by k_is⟩
      | exact ⟨_, _, _, _, _, _, _, _, _, _, by k_is, by k_is, by k_is, by k_is, by k_is⟩
      | exact ⟨_, _, _, _, _, _, _, _, _, _, by k_is, by k_is, by k_is, by k_is, by k_is, by k_is⟩
      | exact ⟨by k_is, by k_is, by k_is, by k_is, by k_is, by k_is⟩

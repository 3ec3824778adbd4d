import PyProof.Rows.All
import Wide.All
import OpenK.AllK
import Wide.FinOn
import Lean
import PyProof.EqAt
import PyProof.EqKinds
import PyProof.TupleCall
import PySem.Challenge.RW_rimsteps_k64_sides_that_cross
set_option Elab.async false
set_option linter.all false
set_option maxRecDepth 100000
namespace L2
open PySem PySem.Spec PyProof.Rows

/-- a key: an int or a str -/
abbrev Key := Sum Int Str
def keyIs : Key → Value → Bool
  | .inl k, v => Value.isInt k v
  | .inr x, v => Value.isStrOf x v
def keyH (w : World) : Key → Int
  | .inl k => hashInt k
  | .inr x => hashStr w x
theorem keyIs_shape : ∀ {k : Key} {v : Value}, keyIs k v = true → (∃ i t, k = Sum.inl i ∧ v = Value.int i t) ∨ (∃ x t, k = Sum.inr x ∧ v = Value.str x t)
  | .inl i, v, h => by
    obtain ⟨t, e⟩ := Value.isInt_shape (k := i) (v := v) h
    exact .inl ⟨i, t, rfl, e⟩
  | .inr x, v, h => by
    obtain ⟨t, e⟩ := Value.isStrOf_shape (x := x) (v := v) h
    exact .inr ⟨x, t, rfl, e⟩
theorem key_ll (a b : Int) : decide ((Sum.inl a : Key) = Sum.inl b) = (a == b) := by
  by_cases e : a = b
  · subst e; simp
  · have h : ¬ (Sum.inl a : Key) = Sum.inl b := fun q => e (Sum.inl.inj q)
    rw [decide_eq_false h]
    exact (beq_eq_false_iff_ne.mpr e).symm
theorem key_rr (a b : Str) : decide ((Sum.inr a : Key) = Sum.inr b) = decide (a = b) := by
  by_cases e : a = b
  · subst e; simp
  · have h : ¬ (Sum.inr a : Key) = Sum.inr b := fun q => e (Sum.inr.inj q)
    rw [decide_eq_false h, decide_eq_false e]
theorem key_lr (a : Int) (b : Str) : decide ((Sum.inl a : Key) = Sum.inr b) = false := decide_eq_false (fun q => nomatch q)
theorem key_rl (a : Str) (b : Int) : decide ((Sum.inr a : Key) = Sum.inl b) = false := decide_eq_false (fun q => nomatch q)

def mixKind (prog : Program) (w : World) : PySem.KeyKind prog w Key where
  is := keyIs
  hash := keyH w
  inj := fun v a b ha hb => by
    rcases keyIs_shape ha with ⟨i, t, rfl, rfl⟩ | ⟨x, t, rfl, rfl⟩
    · rcases keyIs_shape hb with ⟨j, u, rfl, e⟩ | ⟨y, u, rfl, e⟩
      · injection e with e1 _; rw [e1]
      · exact nomatch e
    · rcases keyIs_shape hb with ⟨j, u, rfl, e⟩ | ⟨y, u, rfl, e⟩
      · exact nomatch e
      · injection e with e1 _; rw [e1]
  byValue := fun k v h => by
    rcases keyIs_shape h with ⟨i, t, rfl, rfl⟩ | ⟨x, t, rfl, rfl⟩ <;> rfl
  pyHash := fun hv h => by
    rcases keyIs_shape hv with ⟨i, t, rfl, rfl⟩ | ⟨x, t, rfl, rfl⟩
    · exact wpAny_pyHash_int h
    · exact wpAny_pyHash_str h
  eqBool := fun hu hv h => by
    rcases keyIs_shape hu with ⟨i, t, rfl, rfl⟩ | ⟨x, t, rfl, rfl⟩
    · rcases keyIs_shape hv with ⟨j, u, rfl, rfl⟩ | ⟨y, u, rfl, rfl⟩
      · rw [key_ll] at h; exact wpAny_eqBool_int h
      · rw [key_lr] at h; exact SeqAt.EqAt.int_str i t y u _ _ _ _ h
    · rcases keyIs_shape hv with ⟨j, u, rfl, rfl⟩ | ⟨y, u, rfl, rfl⟩
      · rw [key_rl] at h; exact SeqAt.EqAt.str_int x t j u _ _ _ _ h
      · rw [key_rr] at h; exact wpAny_eqBool_str h
  «strs» := fun k x t v h => by
    rcases keyIs_shape h with ⟨i, u, rfl, e⟩ | ⟨y, u, rfl, e⟩
    · exact nomatch e
    · injection e with e1 _
      subst e1
      cases v <;> rfl

end L2

namespace L2
open PySem PySem.Spec PyProof.Rows

/-- a value, without the heap -/
inductive V where
  | non | bl (b : Bool) | int (i : Int) | str (x : Str) | byt (b : Array UInt8) | flt (b : UInt64) | ref (a : Addr) | ty (n : String)
  deriving DecidableEq

def RelV : V → Value → Prop
  | .non, u => u = Value.none
  | .bl b, u => u = Value.bool b
  | .int i, u => ∃ t, u = Value.int i t
  | .str x, u => ∃ t, u = Value.str x t
  | .byt b, u => ∃ t, u = Value.bytes b t
  | .flt b, u => ∃ t, u = Value.float b t
  | .ref a, u => u = Value.ref a
  | .ty n, u => u = Value.type n

abbrev Vals : List V → List Value → Prop := Paired RelV
theorem Vals.length {xs : List V} {us : List Value} (r : Vals xs us) : xs.length = us.length := Paired.length r
theorem Vals.get : ∀ {xs : List V} {us : List Value} {i : Nat} {x : V}, Vals xs us → xs[i]? = some x → ∃ u, us[i]? = some u ∧ RelV x u
  | _, _, _, _, .nil, e => by simp at e
  | _, _, 0, _, .cons r _, e => by simp at e; subst e; exact ⟨_, rfl, r⟩
  | _, _, i + 1, x, .cons _ t, e => by
    obtain ⟨u, h1, h2⟩ := Vals.get (i := i) (x := x) t (by simpa using e)
    exact ⟨u, by simpa using h1, h2⟩
theorem Vals.set {x : V} {u : Value} (r : RelV x u) : ∀ {xs : List V} {us : List Value} (i : Nat), Vals xs us → Vals (xs.set i x) (us.set i u)
  | _, _, _, .nil => .nil
  | _, _, 0, .cons _ t => .cons r t
  | _, _, i + 1, .cons q t => .cons q (Vals.set r i t)
theorem Vals.append : ∀ {xs ys : List V} {us ws : List Value}, Vals xs us → Vals ys ws → Vals (xs ++ ys) (us ++ ws)
  | _, _, _, _, .nil, s => s
  | _, _, _, _, .cons r t, s => .cons r (Vals.append t s)
theorem Vals.take : ∀ {xs : List V} {us : List Value} (n : Nat), Vals xs us → Vals (xs.take n) (us.take n)
  | _, _, 0, _ => .nil
  | _, _, _ + 1, .nil => .nil
  | _, _, n + 1, .cons r t => .cons r (Vals.take n t)
theorem Vals.drop : ∀ {xs : List V} {us : List Value} (n : Nat), Vals xs us → Vals (xs.drop n) (us.drop n)
  | _, _, 0, r => r
  | _, _, _ + 1, .nil => .nil
  | _, _, n + 1, .cons _ t => Vals.drop n t
def RelO : Option V → Option Value → Prop
  | some v, some u => RelV v u
  | none, none => True
  | _, _ => False
def KV {κ : Type} : List (κ × V) → List (κ × Value) → Prop := Paired fun (p : κ × V) (q : κ × Value) => p.1 = q.1 ∧ RelV p.2 q.2

/-- a key of a dict (00_mix): an int or a text -/
def kV : Key → V
  | .inl i => .int i
  | .inr x => .str x

/-- what stands at a tracked address -/
inductive HO where
  /-- a list -/
  | lst (xs : List V)
  /-- a tuple (never changes) -/
  | tup (xs : List V)
  /-- a dict whose keys are ints and texts; one whose keys are tuples of ints and texts (the empty one is both) -/
  | dK (kvs : List (Key × V)) | dT (kvs : List (List Key × V))
  /-- a set of ints: its members, its size -/
  | set (S : Int → Bool) (n : Nat)
  /-- an instance of the class at C, its dict at dx, its attributes -/
  | ins (C dx : Addr) (fs : List (Str × V))
  /-- the dict of the instance at x -/
  | own (x : Addr)
  /-- the dict of an exception -/
  | xd (fs : List (Str × V))
  /-- a bound method, f of x -/
  | met (f x : Addr)
  /-- a range object lo, lo + 1, .. below hi -/
  | rng (lo hi : Int)
  /-- a thing that is known to the object (the script; a dict while a loop walks it): read, never written while it is so -/
  | frz (o : Obj) (u : HO)
  /-- a code object's table -/
  | tbl (ps : Array Value)
  /-- any other thing, by what is true of its one object (a def of one's own: SetO a S n := HO.ext fun h => ..) -/
  | ext (φ : Heap → Prop)

abbrev Hp := Addr → Option HO
def upd (H : Hp) (a : Addr) (o : HO) : Hp := fun b => if b = a then some o else H b
theorem upd_same {H : Hp} {a : Addr} {o : HO} : upd H a o a = some o := by unfold upd; rw [if_pos rfl]
theorem upd_ne {H : Hp} {a b : Addr} {o : HO} (h : b ≠ a) : upd H a o b = H b := by unfold upd; rw [if_neg h]
theorem upd_upd {H : Hp} {a : Addr} {o u : HO} : upd (upd H a o) a u = upd H a u := by
  funext b; unfold upd; split <;> rfl
/-- two objects of different content stand apart -/
theorem ne_of {H : Hp} {a b : Addr} {o u : HO} (h : H a = some o) (h' : H b = some u) (d : o ≠ u) : a ≠ b := by
  intro e; subst e; rw [h] at h'; exact d (Option.some.inj h')
theorem ne_of_none {H : Hp} {a b : Addr} {o : HO} (h : H a = some o) (h' : H b = none) : a ≠ b := by
  intro e; subst e; rw [h] at h'; cases h'

section
variable (P : Program) (w : World)
def ObjOk (H : Hp) (h : Heap) (a : Addr) : HO → Prop
  | .lst xs => xs.length ≤ sizeLine ∧ ∃ (its : List Value) (n : Nat), Vals xs its ∧ h.get? a = some { cls := .type "list", data := .seq its.toArray n }
  | .tup xs => xs.length ≤ sizeLine ∧ ∃ its : List Value, Vals xs its ∧ IsTup h a its.toArray
  | .dK kvs => kvs.length ≤ sizeLine ∧ (a == sysModules) = false ∧ ∃ vs, KV kvs vs ∧ h.DictOf (mixKind P w) a vs
  | .dT kvs => kvs.length ≤ sizeLine ∧ (a == sysModules) = false ∧ ∃ xs : List (List Key × Addr × Value),
      Paired (fun (p : List Key × V) (q : List Key × Addr × Value) => p.1 = q.1 ∧ H q.2.1 = some (.tup (p.1.map kV)) ∧ RelV p.2 q.2.2) kvs xs ∧
      ∃ o es ep, h.get? a = some o ∧ o.ExactDict ∧ o.data = .dict es ep ∧ es.toList = xs.map (entryOfKey (tupleKind (mixKind P w))) ∧ (xs.map (·.1)).Nodup
  | .set S n => h.SetOf (intKind P w) a S n
  | .ins C dx fs => H dx = some (.own a) ∧ fs.length ≤ 1000 ∧ dx ≠ a ∧ h.get? a = some (PySem.W.instObj C dx) ∧
      ∃ mA, h.Ns1 dx mA ∧ (∀ f, RelO (fs.lookup f) (mA f)) ∧ PySem.Within mA (fs.map (·.1))
  | .own _ => ∃ o, h.get? a = some o
  | .xd fs => ∃ mA, h.Ns1 a mA ∧ ∀ f, RelO (fs.lookup f) (mA f)
  | .rng lo hi => ∃ t u v, h.get? a = some { cls := .type "range", data := .fields #[.int lo t, .int hi u, .int 1 v] }
  | .frz o u => h.get? a = some o ∧ ObjOk H h a u
  | .tbl ps => h.get? a = some { cls := .none, data := .fields ps }
  | .met f x => h.get? a = some (PySem.W.methodObj (.ref f) (.ref x))
  | .ext φ => φ h ∧ (∃ o, h.get? a = some o) ∧ ∀ h1 h2 : Heap, φ h1 → (∀ o, h1.get? a = some o → h2.get? a = some o) → φ h2
/-- the abstract heap is held -/
def HOk (H : Hp) (h : Heap) : Prop := ∀ a o, H a = some o → ObjOk P w H h a o
end

section
variable {P : Program} {w : World} {H H' : Hp} {h h' : Heap} {a : Addr} {o : HO}
theorem ObjOk.lt (x : ObjOk P w H h a o) : a < h.objs.size := by
  cases o with
  | lst xs => obtain ⟨_, _, _, _, e⟩ := x; exact Heap.lt_size e
  | tup xs => obtain ⟨_, _, _, p⟩ := x; exact p.lt
  | dK kvs => obtain ⟨_, _, _, _, o, _, _, e, _⟩ := x; exact Heap.lt_size e
  | dT kvs => obtain ⟨_, _, _, _, o, _, _, e, _⟩ := x; exact Heap.lt_size e
  | set S n => obtain ⟨o, _, _, _, e, _⟩ := x; exact Heap.lt_size e
  | ins C dx fs => obtain ⟨_, _, _, e, _⟩ := x; exact Heap.lt_size e
  | own y => obtain ⟨_, e⟩ := x; exact Heap.lt_size e
  | xd fs => obtain ⟨_, ⟨_, _, _, e, _⟩, _⟩ := x; exact Heap.lt_size e
  | rng lo hi => obtain ⟨_, _, _, e⟩ := x; exact Heap.lt_size e
  | frz ob u => obtain ⟨e, _⟩ := x; exact Heap.lt_size e
  | tbl ps => exact Heap.lt_size (show h.get? a = some _ from x)
  | met f y => exact Heap.lt_size (show h.get? a = some _ from x)
  | ext φ => obtain ⟨_, ⟨_, e⟩, _⟩ := x; exact Heap.lt_size e
theorem Paired.mapP {α β : Type} {F G : α → β → Prop} : ∀ {l₁ : List α} {l₂ : List β}, Paired F l₁ l₂ → (∀ a b, F a b → G a b) → Paired G l₁ l₂
  | _, _, .nil, _ => .nil
  | _, _, .cons r t, f => .cons (f _ _ r) (Paired.mapP t f)
/-- what an object's description leans on: its own object, its own dict, the tuples -/
theorem ObjOk.stay (x : ObjOk P w H h a o) (k : ∀ b u, (b = a ∨ H b = some (.own a)) → h.get? b = some u → h'.get? b = some u)
    (ho : ∀ b, H b = some (.own a) → H' b = some (.own a)) (ht : ∀ b xs, H b = some (.tup xs) → H' b = some (.tup xs)) : ObjOk P w H' h' a o := by
  induction o with
  | lst xs => obtain ⟨z, its, n, r, e⟩ := x; exact ⟨z, its, n, r, k _ _ (.inl rfl) e⟩
  | tup xs => obtain ⟨z, its, r, ob, e, c⟩ := x; exact ⟨z, its, r, ob, k _ _ (.inl rfl) e, c⟩
  | dK kvs => obtain ⟨z, y, vs, r, ob, es, ep, e, c⟩ := x; exact ⟨z, y, vs, r, ob, es, ep, k _ _ (.inl rfl) e, c⟩
  | dT kvs =>
    obtain ⟨z, y, xs, r, ob, es, ep, e, c⟩ := x
    exact ⟨z, y, xs, Paired.mapP r fun p q z => ⟨z.1, ht _ _ z.2.1, z.2.2⟩, ob, es, ep, k _ _ (.inl rfl) e, c⟩
  | set S n => obtain ⟨ob, es, ep, t, e, c⟩ := x; exact ⟨ob, es, ep, t, k _ _ (.inl rfl) e, c⟩
  | ins C dx fs =>
    obtain ⟨d, z, ne, e, mA, ⟨od, es, ep, e2, c⟩, r⟩ := x
    exact ⟨ho _ d, z, ne, k _ _ (.inl rfl) e, mA, ⟨od, es, ep, k _ _ (.inr d) e2, c⟩, r⟩
  | own y => obtain ⟨ob, e⟩ := x; exact ⟨ob, k _ _ (.inl rfl) e⟩
  | xd fs => obtain ⟨mA, ⟨od, es, ep, e, c⟩, r⟩ := x; exact ⟨mA, ⟨od, es, ep, k _ _ (.inl rfl) e, c⟩, r⟩
  | rng lo hi => obtain ⟨t, u, v, e⟩ := x; exact ⟨t, u, v, k _ _ (.inl rfl) e⟩
  | frz ob u ih => obtain ⟨e, q⟩ := x; exact ⟨k _ _ (.inl rfl) e, ih q⟩
  | tbl ps =>
    have e : h.get? a = some { cls := .none, data := .fields ps } := x
    show h'.get? a = some { cls := .none, data := .fields ps }
    exact k a _ (.inl rfl) e
  | met f y =>
    have e : h.get? a = some (PySem.W.methodObj (.ref f) (.ref y)) := x
    show h'.get? a = some (PySem.W.methodObj (.ref f) (.ref y))
    exact k a _ (.inl rfl) e
  | ext φ => obtain ⟨p, ⟨o, e⟩, st⟩ := x; exact ⟨st _ _ p fun o q => k _ _ (.inl rfl) q, ⟨o, k _ _ (.inl rfl) e⟩, st⟩
theorem HOk.lt (x : HOk P w H h) (e : H a = some o) : a < h.objs.size := (x a o e).lt
theorem HOk.fresh (x : HOk P w H h) (e : h.objs.size ≤ a) : H a = none := by
  cases q : H a with
  | none => rfl
  | some u => exact absurd (Nat.lt_of_lt_of_le (x.lt q) e) (Nat.lt_irrefl _)
/-- every object of the heap is kept -/
theorem HOk.kept (x : HOk P w H h) (k : ∀ b u, h.get? b = some u → h'.get? b = some u) : HOk P w H h' := fun a o e =>
  (x a o e).stay (fun b u _ q => k b u q) (fun _ q => q) fun _ _ q => q
/-- a new object is laid and tracked -/
theorem HOk.laid (x : HOk P w H h) (k : ∀ b u, h.get? b = some u → h'.get? b = some u) (hp : h.objs.size ≤ a) (new : ObjOk P w (upd H a o) h' a o) : HOk P w (upd H a o) h' := fun b u e => by
  have hn := x.fresh hp
  by_cases hb : b = a
  · subst hb; rw [upd_same] at e; cases e; exact new
  · rw [upd_ne hb] at e
    exact (x b u e).stay (fun c v _ q => k c v q) (fun c q => by rw [upd_ne (ne_of_none q hn)]; exact q) fun c xs q => by rw [upd_ne (ne_of_none q hn)]; exact q
end

/-- what may be read as u: it is u, or a known u -/
def Rd (H : Hp) (a : Addr) (u : HO) : Prop := H a = some u ∨ ∃ o, H a = some (.frz o u)
theorem Rd.of {H : Hp} {a : Addr} {u : HO} (h : H a = some u) : Rd H a u := .inl h
theorem Rd.ok {P : Program} {w : World} {H : Hp} {h : Heap} {a : Addr} {u : HO} (r : Rd H a u) (x : HOk P w H h) : ObjOk P w H h a u := by
  rcases r with r | ⟨o, r⟩
  · exact x a u r
  · obtain ⟨_, q⟩ := x a _ r
    exact q
/-- what may be written -/
def Mut : Option HO → Prop
  | some (.lst _) => True
  | some (.dK _) => True
  | some (.dT _) => True
  | some (.set _ _) => True
  | some (.ins _ _ _) => True
  | some (.ext _) => True
  | _ => False
section
variable {P : Program} {w : World} {H : Hp} {h h' : Heap} {x e : Addr} {o' : HO}
/-- the object at e is changed: x itself, or the dict of the instance x -/
theorem HOk.write (ok : HOk P w H h) (mu : Mut (H x)) (he : e = x ∨ H e = some (.own x)) (k : ∀ b u, b ≠ e → h.get? b = some u → h'.get? b = some u) (heo : ∃ u, h'.get? e = some u)
    (new : ObjOk P w (upd H x o') h' x o') : HOk P w (upd H x o') h' := fun b u q => by
  have nown : ∀ c y, H c = some (.own y) → c ≠ x := fun c y r z => by subst z; rw [r] at mu; exact mu
  have ntup : ∀ c xs, H c = some (.tup xs) → c ≠ x := fun c xs r z => by subst z; rw [r] at mu; exact mu
  by_cases hb : b = x
  · subst hb; rw [upd_same] at q; cases q; exact new
  · rw [upd_ne hb] at q
    by_cases hbe : b = e
    · have q' : H b = some (.own x) := by
        rcases he with z | z
        · exact absurd (hbe.trans z) hb
        · rw [hbe]; exact z
      rw [q] at q'; cases q'
      obtain ⟨v, hv⟩ := heo
      exact ⟨v, by rw [hbe]; exact hv⟩
    · refine (ok b u q).stay (fun c v hc r => k c v ?_ r) (fun c r => by rw [upd_ne (nown c b r)]; exact r) fun c xs r => by rw [upd_ne (ntup c xs r)]; exact r
      rcases hc with rfl | hc
      · exact hbe
      · rintro rfl
        rcases he with z | z
        · exact nown c b hc z
        · rw [hc] at z; cases z; exact hb rfl
end

/-! ### kept unless tracked; of the frames at fs (the callers') the slots may change (an exception that passes writes there); of the records at ex (iterators) nothing is said -/
structure Un (fs ex : List Addr) (H H' : Hp) (h h' : Heap) : Prop where
  keep : ∀ b o, h.get? b = some o → H b = none → b ∉ fs → b ∉ ex → h'.get? b = some o
  slot : ∀ b o, h.get? b = some o → H b = none → b ∈ fs → b ∉ ex → ∃ sl, h'.get? b = some { o with slots := sl }
  free : ∀ b o, h.get? b = some o → H b = none → b ∉ ex → H' b = none
  there : ∀ b o, h.get? b = some o → b ∉ ex → ∃ o', h'.get? b = some o'
  tups : ∀ b xs, H b = some (.tup xs) → H' b = some (.tup xs)
  frzs : ∀ b o u, H b = some (.frz o u) → H' b = some (.frz o u)
  tbls : ∀ b ps, H b = some (.tbl ps) → ∃ more, H' b = some (.tbl (ps ++ more))
section
variable {fs fs' ex ex' : List Addr} {H H1 H2 : Hp} {h h1 h2 h' : Heap} {a x e : Addr} {o : HO}
theorem Un.any (u : Un fs ex H H1 h h1) {b : Addr} {ob : Obj} (q : h.get? b = some ob) (n : H b = none) (hx : b ∉ ex) : ∃ sl, h1.get? b = some { ob with slots := sl } := by
  by_cases hb : b ∈ fs
  · exact u.slot b ob q n hb hx
  · exact ⟨ob.slots, u.keep b ob q n hb hx⟩
theorem Un.trans (a : Un fs ex H H1 h h1) (b : Un fs ex H1 H2 h1 h2) : Un fs ex H H2 h h2 where
  keep := fun c ob q n hc hx => b.keep c ob (a.keep c ob q n hc hx) (a.free c ob q n hx) hc hx
  slot := fun c ob q n hc hx => by
    obtain ⟨sl, e1⟩ := a.slot c ob q n hc hx
    obtain ⟨sl', e2⟩ := b.slot c _ e1 (a.free c ob q n hx) hc hx
    exact ⟨sl', e2⟩
  free := fun c ob q n hx => by
    obtain ⟨o', e1⟩ := a.there c ob q hx
    exact b.free c o' e1 (a.free c ob q n hx) hx
  there := fun c ob q hx => by
    obtain ⟨o', e1⟩ := a.there c ob q hx
    exact b.there c o' e1 hx
  tups := fun c xs q => b.tups c xs (a.tups c xs q)
  frzs := fun c ob xs q => b.frzs c ob xs (a.frzs c ob xs q)
  tbls := fun c ps q => by
    obtain ⟨m1, e1⟩ := a.tbls c ps q
    obtain ⟨m2, e2⟩ := b.tbls c _ e1
    exact ⟨m1 ++ m2, by rw [e2, Array.append_assoc]⟩
theorem Un.kept (k : ∀ b u, h.get? b = some u → h'.get? b = some u) : Un fs ex H H h h' :=
  ⟨fun b ob q _ _ _ => k b ob q, fun b ob q _ _ _ => ⟨ob.slots, k b ob q⟩, fun _ _ _ n _ => n, fun b ob q _ => ⟨ob, k b ob q⟩, fun _ _ q => q, fun _ _ _ q => q, fun _ ps q => ⟨#[], by rw [q]; simp⟩⟩
theorem Un.refl : Un fs ex H H h h := Un.kept fun _ _ q => q
theorem Un.laid (k : ∀ b u, h.get? b = some u → h'.get? b = some u) (hp : h.objs.size ≤ a) (hn : H a = none) : Un fs ex H (upd H a o) h h' where
  keep := fun b u q _ _ _ => k b u q
  slot := fun b u q _ _ _ => ⟨u.slots, k b u q⟩
  free := fun b u q n _ => by rw [upd_ne (Nat.ne_of_lt (Nat.lt_of_lt_of_le (Heap.lt_size q) hp))]; exact n
  there := fun b u q _ => ⟨u, k b u q⟩
  tups := fun b xs q => by rw [upd_ne (ne_of_none q hn)]; exact q
  frzs := fun b u xs q => by rw [upd_ne (ne_of_none q hn)]; exact q
  tbls := fun b ps q => ⟨#[], by rw [upd_ne (ne_of_none q hn), q]; simp⟩
theorem Un.write (mu : Mut (H x)) (he : e = x ∨ H e = some (.own x)) (k : ∀ b u, b ≠ e → h.get? b = some u → h'.get? b = some u) (heo : ∃ u, h'.get? e = some u) : Un fs ex H (upd H x o) h h' := by
  have hx : ∀ b, H b = none → b ≠ x := fun b n z => by subst z; rw [n] at mu; exact mu
  have hb : ∀ b, H b = none → b ≠ e := fun b n z => by
    subst z
    rcases he with r | r
    · exact hx b n r
    · rw [n] at r; cases r
  have hm : ∀ b u, H b = some u → ¬ Mut (some u) → b ≠ x := fun b u q nm z => by subst z; rw [q] at mu; exact nm mu
  refine ⟨fun b u q n _ _ => k b u (hb b n) q, fun b u q n _ _ => ⟨u.slots, k b u (hb b n) q⟩, fun b u q n _ => by rw [upd_ne (hx b n)]; exact n, fun b u q _ => ?_,
    fun b xs q => by rw [upd_ne (hm b _ q fun z => z)]; exact q, fun b u xs q => by rw [upd_ne (hm b _ q fun z => z)]; exact q, fun b ps q => ⟨#[], by rw [upd_ne (hm b _ q fun z => z), q]; simp⟩⟩
  by_cases hbe : b = e
  · subst hbe; exact heo
  · exact ⟨u, k b u hbe q⟩
theorem Un.mono (u : Un fs ex H H1 h h1) (hs : ∀ b ∈ fs, b ∈ fs') (hx : ∀ b ∈ ex, b ∈ ex') : Un fs' ex' H H1 h h1 :=
  ⟨fun b ob q n hb he => u.keep b ob q n (fun z => hb (hs b z)) fun z => he (hx b z), fun _ _ q n _ he => u.any q n fun z => he (hx _ z), fun b ob q n he => u.free b ob q n fun z => he (hx b z), fun b ob q he => u.there b ob q fun z => he (hx b z), u.tups, u.frzs, u.tbls⟩
end

/-! ### the heap without what is tracked -/
def trk (h : Heap) (H : Hp) : List Addr := (List.range h.objs.size).filter fun a => (H a).isSome
def hidT (h : Heap) (H : Hp) : Heap := PySem.W.hideAll h (trk h H)
theorem hidT_size (h : Heap) (H : Hp) : (hidT h H).objs.size = h.objs.size := PySem.W.hideAll_size _ _
theorem hidT_get {h : Heap} {H : Hp} {b : Addr} {o : Obj} (e : h.get? b = some o) (n : H b = none) : (hidT h H).get? b = some o :=
  PySem.W.hideAll_get _ e fun hm => by
    have q : (H b).isSome = true := (List.mem_filter.mp hm).2
    rw [n] at q; simp at q
theorem of_hidT {h : Heap} {H : Hp} {b : Addr} {o : Obj} (e : (hidT h H).get? b = some o) : h.get? b = some o ∧ H b = none := by
  have e' : h.get? b = some o := PySem.W.of_hideAll (trk h H) e
  refine ⟨e', ?_⟩
  cases q : H b with
  | none => rfl
  | some x =>
    have hm : b ∈ trk h H := List.mem_filter.mpr ⟨List.mem_range.mpr (Heap.lt_size e'), by simp [q]⟩
    have z : (hidT h H).get? b = none := PySem.W.hideAll_none (trk h H) hm
    rw [z] at e; cases e

/-! ### OpenK's ledger, filled with every new object but one -/
def allNews (g h : Heap) (L : Addr) : List (Addr × Obj) := (List.range h.objs.size).filterMap fun a => if a = L ∨ (g.get? a).isSome = true then none else (h.get? a).map fun o => (a, o)
def rest (g h : Heap) (L d : Addr) : List (Addr × Obj) := (allNews g h L).filter fun p => decide (p.1 ≠ d)
end L2

namespace L2
open PySem PySem.Spec PyProof.Rows

/-- the module's facts, over the base: the heap at the law's entry without what is tracked there -/
structure Mod (K : PySem.W.Frag) (mg : Str → Option Value) (base : Heap) : Prop where
  kin : K.In base
  glob : base.Ns mainGlobals mg
  blt : ∃ mb, base.Ns builtinsNs mb ∧ ∀ x : Str, x ≠ "__name__" → mb x = bootBuiltins x
  nolimit : base.NoLimit

/-- the context: a def's body (or a comprehension's block) running. base: fixed through the whole law; s₀, H₀: the entry; outer: the frames whose slots others may change (a def's callers); stack: all frames that run;
   ex: iterators that were made ahead of the entry and are walked here (a comprehension's); fn: the names whose cells were made at the entry (a def: all; a comprehension's block: its own); calm: not within an except suite; pn: pins that every state bears; xe: what is wanted of an exception that leaves the code -/
structure Cx where
  prog : Program
  w : World
  K : PySem.W.Frag
  mg : Str → Option Value
  base : Heap
  A : Around
  N : List Str
  s₀ : Shared
  H₀ : Hp
  env : Env
  outer : List Env
  stack : List Env
  ex : List Addr
  fn : Str → Bool
  calm : Bool
  pn : List (Addr × Obj)
  xe : Value → Shared → Prop
/-- the callers' frames -/
def frs (l : List Env) : List Addr := l.filterMap (·.frame)
abbrev Cx.fs (X : Cx) : List Addr := frs X.outer

def Vis (sc : Scope) (x : Str) : Prop := sc.names.lookup x = some .local ∨ sc.names.lookup x = some .cell ∨ sc.names.lookup x = some .free
def Loc (sc : Scope) (x : Str) : Prop := sc.names.lookup x = some .local ∨ sc.names.lookup x = some .cell
def Look (env : Env) (h : Heap) (m : Str → Option Value) (x : Str) (u : Value) : Prop :=
  (env.kindOf x = some .local ∧ m x = some u) ∨ ((env.kindOf x = some .cell ∨ env.kindOf x = some .free) ∧ ∃ c, env.cells.lookup x = some c ∧ h.IsCell c (some u))

structure Cx.Ok (X : Cx) : Prop where
  mod : Mod X.K X.mg X.base
  kind : X.env.scope.kind = .function
  glob : X.env.globals = mainGlobals
  blt : X.env.builtins = builtinsNs
  above : X.s₀.heap.objs.size ≤ X.env.locals
  inj : ∀ x y c, X.env.cells.lookup x = some c → X.env.cells.lookup y = some c → x = y
  has : ∀ x, (X.env.kindOf x = some .cell ∨ X.env.kindOf x = some .free) → ∃ c, X.env.cells.lookup x = some c
  cab : ∀ x c, X.fn x = true → X.env.cells.lookup x = some c → X.s₀.heap.objs.size ≤ c
  hd : X.calm = true → X.A.handled = none
  frames : X.A.frames = some X.stack
  stk : X.stack = X.outer ∨ (X.stack = X.env :: X.outer ∧ X.env.frame = some X.env.locals)
  exf : ∀ b ∈ X.ex, b ≠ X.env.locals ∧ ∀ x c, X.env.cells.lookup x = some c → c ≠ b
  bs : ∀ b o, X.base.get? b = some o → X.s₀.heap.get? b = some o ∧ X.H₀ b = none
  bsz : X.base.objs.size ≤ X.s₀.heap.objs.size
  noex : ∀ b o, X.base.get? b = some o → b ∉ X.ex
  exfs : ∀ b ∈ X.ex, b ∉ X.fs
  funs : X.s₀.heap.FunFrames X.base X.outer
  frf : ∀ b ∈ X.fs, X.H₀ b = none

structure Inv (X : Cx) (pins : List (Addr × Obj)) (σ : List (Option V)) (H : Hp) (s : Shared) : Prop where
  ok : X.Ok
  os : s.os = X.s₀.os
  bare : AllBare s.gens
  base : Un X.fs X.ex X.H₀ H X.s₀.heap s.heap
  loc : ∃ m, s.heap.Ns X.env.locals m ∧ ∀ (i : Nat) (x : Str) (v : V), X.N[i]? = some x → σ[i]? = some (some v) → Vis X.env.scope x → ∃ u, RelV v u ∧ Look X.env s.heap m x u
  cell : ∀ x c, X.env.cells.lookup x = some c → ∃ v, s.heap.IsCell c v
  free : H X.env.locals = none
  freeC : ∀ x c, X.env.cells.lookup x = some c → H c = none
  pin : ∀ p ∈ X.pn ++ pins, s.heap.get? p.1 = some p.2 ∧ H p.1 = none ∧ p.1 ≠ X.env.locals ∧ p.1 ∉ X.fs ∧ ∀ v, p.2.data ≠ .cell v
  hok : HOk X.prog X.w H s.heap
  len : σ.length = X.N.length

section
variable {X : Cx} {pins : List (Addr × Obj)} {σ : List (Option V)} {H H' : Hp} {s : Shared} {h' : Heap}

theorem Cx.Ok.nofr (ok : X.Ok) {b : Addr} {o : Obj} (e : X.base.get? b = some o) : b ∉ X.fs := fun hb => by
  have := (ok.funs.mem hb).1
  rw [e] at this; cases this
theorem Inv.bs (I : Inv X pins σ H s) : ∀ b o, X.base.get? b = some o → s.heap.get? b = some o ∧ H b = none := fun b o e =>
  ⟨I.base.keep b o (I.ok.bs b o e).1 (I.ok.bs b o e).2 (I.ok.nofr e) (I.ok.noex b o e), I.base.free b o (I.ok.bs b o e).1 (I.ok.bs b o e).2 (I.ok.noex b o e)⟩
theorem Inv.bk (I : Inv X pins σ H s) : ∀ b o, X.base.get? b = some o → s.heap.get? b = some o := fun b o e => (I.bs b o e).1
theorem Inv.mod (I : Inv X pins σ H s) : Mod X.K X.mg X.base := I.ok.mod
theorem Inv.kIn (I : Inv X pins σ H s) : X.K.In s.heap := I.ok.mod.kin.keeps I.bk
theorem Inv.nolimit (I : Inv X pins σ H s) : s.heap.NoLimit := I.ok.mod.nolimit.keeps I.bk
theorem Inv.lt (I : Inv X pins σ H s) : X.env.locals < s.heap.objs.size := let ⟨_, hn, _⟩ := I.loc; hn.lt
theorem Inv.sz (I : Inv X pins σ H s) : X.s₀.heap.objs.size ≤ s.heap.objs.size := Nat.le_trans I.ok.above (Nat.le_of_lt I.lt)
theorem Inv.nofs (I : Inv X pins σ H s) {a : Addr} (h : s.heap.objs.size ≤ a) : a ∉ X.fs := fun hb => by
  obtain ⟨_, o, ho, _⟩ := I.ok.funs.mem hb
  exact absurd (Nat.lt_of_lt_of_le (Heap.lt_size ho) (Nat.le_trans I.sz h)) (Nat.lt_irrefl _)
theorem Inv.cne (I : Inv X pins σ H s) : ∀ x c, X.env.cells.lookup x = some c → c ≠ X.env.locals := fun x c e z => by
  obtain ⟨v, o, ho, hd⟩ := I.cell x c e
  obtain ⟨m, ⟨o', es, ep, ho', hd', _⟩, _⟩ := I.loc
  rw [z, ho'] at ho; cases ho; rw [hd'] at hd; cases hd
theorem Inv.funs (I : Inv X pins σ H s) : s.heap.FunFrames X.base X.outer := by
  have all : ∀ (l : List Env), (∀ b ∈ frs l, b ∈ X.fs) → X.s₀.heap.FunFrames X.base l → s.heap.FunFrames X.base l := by
    intro l
    induction l with
    | nil => intro _ _; trivial
    | cons env r ih =>
      intro hs hl
      obtain ⟨hk, ⟨L, o, hf, hn, ho, hd⟩, hr⟩ := hl
      have hL : L ∈ X.fs := hs L (by unfold frs; rw [List.filterMap_cons, hf]; exact List.mem_cons_self)
      obtain ⟨sl, e⟩ := I.base.slot L o ho (I.ok.frf L hL) hL fun z => I.ok.exfs L z hL
      exact ⟨hk, ⟨L, _, hf, hn, e, hd⟩, ih (fun b hb => hs b (by unfold frs; rw [List.filterMap_cons, hf]; exact List.mem_cons_of_mem _ hb)) hr⟩
  exact all X.outer (fun _ hb => hb) I.ok.funs

/-- the frames that run, for a call -/
theorem Inv.stack (I : Inv X pins σ H s) : s.heap.FunFrames X.base X.stack := by
  rcases I.ok.stk with e | ⟨e, hf⟩
  · rw [e]; exact I.funs
  · rw [e]
    obtain ⟨m, hn, _⟩ := I.loc
    refine .cons (by rw [I.ok.kind]; decide) hf hn ?_ I.funs
    exact Heap.get?_none_of_le (Nat.le_trans I.ok.bsz I.ok.above)
theorem Inv.stkSub (I : Inv X pins σ H s) : ∀ b ∈ frs X.stack, b ∈ X.env.locals :: X.fs := fun b hb => by
  rcases I.ok.stk with e | ⟨e, hf⟩
  · rw [e] at hb; exact List.mem_cons_of_mem _ hb
  · rw [e] at hb
    unfold frs at hb
    rw [List.filterMap_cons, hf] at hb
    exact hb
theorem Inv.stkFree (I : Inv X pins σ H s) : ∀ b ∈ frs X.stack, H b = none := fun b hb => by
  rcases List.mem_cons.mp (I.stkSub b hb) with e | hb
  · rw [e]; exact I.free
  · obtain ⟨_, o, ho, _⟩ := I.ok.funs.mem hb
    exact I.base.free b o ho (I.ok.frf b hb) fun z => I.ok.exfs b z hb

/-- THE STEP: the untracked objects but the frame and the records at ch are kept (the callers' frames up to slots), the frame's map is kept, the new abstract heap is held -/
theorem Inv.step {g' : Array GenState} {t' : Nat} {d' : Drawn} {ch : List Addr} (I : Inv X pins σ H s)
    (hch : ∀ b ∈ ch, (b ∈ X.ex ∨ X.s₀.heap.objs.size ≤ b) ∧ b ≠ X.env.locals ∧ (∀ x c, X.env.cells.lookup x = some c → c ≠ b) ∧ ∀ p ∈ X.pn ++ pins, p.1 ≠ b)
    (keep : ∀ b o, b ≠ X.env.locals → b ∉ X.fs → b ∉ ch → s.heap.get? b = some o → H b = none → h'.get? b = some o)
    (slot : ∀ b o, b ≠ X.env.locals → b ∈ X.fs → b ∉ ch → s.heap.get? b = some o → H b = none → ∃ sl, h'.get? b = some { o with slots := sl }) (free : ∀ b o, b ∉ ch → s.heap.get? b = some o → H b = none → H' b = none)
    (there : ∀ b o, b ∉ ch → s.heap.get? b = some o → ∃ o', h'.get? b = some o')
    (tups : ∀ b xs, H b = some (.tup xs) → H' b = some (.tup xs)) (frzs : ∀ b o u, H b = some (.frz o u) → H' b = some (.frz o u)) (tbls : ∀ b ps, H b = some (.tbl ps) → ∃ more, H' b = some (.tbl (ps ++ more)))
    (ns : ∀ m, s.heap.Ns X.env.locals m → h'.Ns X.env.locals m) (hok : HOk X.prog X.w H' h') (hg : AllBare g') :
    Inv X pins σ H' { s with heap := h', gens := g', drawn := d', toks := t' } := by
  have neL : ∀ b o, X.s₀.heap.get? b = some o → b ≠ X.env.locals := fun b o e => Nat.ne_of_lt (Nat.lt_of_lt_of_le (Heap.lt_size e) I.ok.above)
  have neC : ∀ b o, X.s₀.heap.get? b = some o → b ∉ X.ex → b ∉ ch := fun b o e hx hb => by
    rcases (hch b hb).1 with z | z
    · exact hx z
    · exact absurd (Nat.lt_of_lt_of_le (Heap.lt_size e) z) (Nat.lt_irrefl _)
  have cellK : ∀ x c, X.env.cells.lookup x = some c → ∀ v, s.heap.IsCell c v → h'.IsCell c v := fun x c e v ⟨o, ho, hd⟩ => by
    have nch : c ∉ ch := fun z => (hch c z).2.2.1 x c e rfl
    by_cases hc : c ∈ X.fs
    · obtain ⟨sl, q⟩ := slot c o (I.cne x c e) hc nch ho (I.freeC x c e)
      exact ⟨_, q, hd⟩
    · exact ⟨o, keep c o (I.cne x c e) hc nch ho (I.freeC x c e), hd⟩
  refine ⟨I.ok, I.os, hg, ⟨fun b o e n hb hx => ?_, fun b o e n hb hx => ?_, fun b o e n hx => ?_, fun b o e hx => ?_, fun b xs e => tups b xs (I.base.tups b xs e), fun b o xs e => frzs b o xs (I.base.frzs b o xs e), fun b ps e => ?_⟩, ?_, fun x c e => ?_, ?_, fun x c e => ?_, fun p hp => ?_, hok, I.len⟩
  · exact keep b o (neL b o e) hb (neC b o e hx) (I.base.keep b o e n hb hx) (I.base.free b o e n hx)
  · obtain ⟨sl, e1⟩ := I.base.slot b o e n hb hx
    obtain ⟨sl', e2⟩ := slot b _ (neL b o e) hb (neC b o e hx) e1 (I.base.free b o e n hx)
    exact ⟨sl', e2⟩
  · obtain ⟨o', e1⟩ := I.base.there b o e hx
    exact free b o' (neC b o e hx) e1 (I.base.free b o e n hx)
  · obtain ⟨o', e1⟩ := I.base.there b o e hx
    exact there b o' (neC b o e hx) e1
  · obtain ⟨m1, e1⟩ := I.base.tbls b ps e
    obtain ⟨m2, e2⟩ := tbls b _ e1
    exact ⟨m1 ++ m2, by rw [e2, Array.append_assoc]⟩
  · obtain ⟨m, hn, hl⟩ := I.loc
    refine ⟨m, ns m hn, fun i x v e1 e2 e3 => ?_⟩
    obtain ⟨u, r, l⟩ := hl i x v e1 e2 e3
    refine ⟨u, r, ?_⟩
    rcases l with l | ⟨k, c, e, z⟩
    · exact .inl l
    · exact .inr ⟨k, c, e, cellK x c e _ z⟩
  · obtain ⟨v, z⟩ := I.cell x c e
    exact ⟨v, cellK x c e v z⟩
  · obtain ⟨m, ⟨o, _, _, ho, _⟩, _⟩ := I.loc
    exact free _ o (fun z => (hch _ z).2.1 rfl) ho I.free
  · obtain ⟨v, o, ho, hd⟩ := I.cell x c e
    exact free c o (fun z => (hch c z).2.2.1 x c e rfl) ho (I.freeC x c e)
  · obtain ⟨e, n, ne, nf, d⟩ := I.pin p hp
    have nch : p.1 ∉ ch := fun z => (hch p.1 z).2.2.2 p hp rfl
    exact ⟨keep p.1 p.2 ne nf nch e n, free p.1 p.2 nch e n, ne, nf, d⟩
/-- .. where the frame's own object is kept too -/
theorem Inv.un {t' : Nat} (I : Inv X pins σ H s) (u : Un X.fs [] H H' s.heap h') (hok : HOk X.prog X.w H' h') : Inv X pins σ H' { s with heap := h', toks := t' } := by
  obtain ⟨m, ⟨o, es, ep, ho, r⟩, _⟩ := id I.loc
  obtain ⟨sl, hL⟩ := u.any ho I.free (by simp)
  exact I.step (g' := s.gens) (d' := s.drawn) (ch := []) (fun _ z => nomatch z) (fun b o _ hb _ e n => u.keep b o e n hb (by simp)) (fun b o _ hb _ e n => u.slot b o e n hb (by simp)) (fun b o _ e n => u.free b o e n (by simp)) (fun b o _ e => u.there b o e (by simp)) u.tups u.frzs u.tbls (fun m' hm => by
    obtain ⟨o', es', ep', ho', r'⟩ := hm
    rw [ho] at ho'; cases ho'
    exact ⟨_, es', ep', hL, r'⟩) hok I.bare
/-- behind a call (or a comprehension's block): the slots of this frame may have changed too, the records at ch may have turned -/
theorem Inv.call {g' : Array GenState} {t' : Nat} {d' : Drawn} {ch : List Addr} (I : Inv X pins σ H s) (u : Un (frs X.stack) ch H H' s.heap h') (hok : HOk X.prog X.w H' h') (hg : AllBare g')
    (hch : ∀ b ∈ ch, (b ∈ X.ex ∨ X.s₀.heap.objs.size ≤ b) ∧ b ≠ X.env.locals ∧ (∀ x c, X.env.cells.lookup x = some c → c ≠ b) ∧ ∀ p ∈ X.pn ++ pins, p.1 ≠ b) :
    Inv X pins σ H' { s with heap := h', gens := g', drawn := d', toks := t' } := by
  obtain ⟨m, ⟨o, es, ep, ho, r⟩, _⟩ := id I.loc
  obtain ⟨sl, hL⟩ := u.any ho I.free fun z => (hch _ z).2.1 rfl
  exact I.step (ch := ch) hch (fun b o hL hb hc e n => u.keep b o e n (fun z => (List.mem_cons.mp (I.stkSub b z)).elim hL hb) hc) (fun b o _ _ hc e n => u.any e n hc) (fun b o hc e n => u.free b o e n hc) (fun b o hc e => u.there b o e hc) u.tups u.frzs u.tbls (fun m' hm => by
    obtain ⟨o', es', ep', ho', r'⟩ := hm
    rw [ho] at ho'; cases ho'
    exact ⟨_, es', ep', hL, r'⟩) hok hg
/-- an untracked record of ours (an iterator) has turned -/
theorem Inv.turned {t' : Nat} {it : Addr} (I : Inv X pins σ H s) (k : ∀ b o, b ≠ it → s.heap.get? b = some o → h'.get? b = some o) (hn : H it = none) (hL : it ≠ X.env.locals)
    (h1 : it ∈ X.ex ∨ X.s₀.heap.objs.size ≤ it) (h2 : ∀ x c, X.env.cells.lookup x = some c → c ≠ it) (h3 : ∀ p ∈ X.pn ++ pins, p.1 ≠ it) : Inv X pins σ H { s with heap := h', toks := t' } := by
  have nit : ∀ b u, H b = some u → b ≠ it := fun b u e z => by rw [z, hn] at e; cases e
  refine I.step (g' := s.gens) (d' := s.drawn) (ch := [it]) (fun b hb => ?_) (fun b o _ _ hc e _ => k b o (fun z => hc (by simp [z])) e) (fun b o _ _ hc e _ => ⟨o.slots, k b o (fun z => hc (by simp [z])) e⟩) (fun _ _ _ _ n => n)
    (fun b o hc e => ⟨o, k b o (fun z => hc (by simp [z])) e⟩) (fun _ _ e => e) (fun _ _ _ e => e) (fun b ps e => ⟨#[], by rw [e]; simp⟩) (fun m hm => ?_) (fun b u e => ?_) I.bare
  · have e : b = it := by simpa using hb
    subst e
    exact ⟨h1, hL, h2, h3⟩
  · obtain ⟨o, es, ep, ho, r⟩ := hm
    exact ⟨o, es, ep, k _ o (Ne.symm hL) ho, r⟩
  · refine (I.hok b u e).stay (fun c v hc q => k c v ?_ q) (fun _ q => q) fun _ _ q => q
    rcases hc with z | z
    · rw [z]; exact nit b u e
    · exact nit c _ z
theorem Inv.tok (I : Inv X pins σ H s) (t : Nat) : Inv X pins σ H { s with toks := t } := I.un (h' := s.heap) (t' := t) Un.refl I.hok
/-- all objects kept -/
theorem Inv.kept {t' : Nat} (I : Inv X pins σ H s) (k : ∀ b u, s.heap.get? b = some u → h'.get? b = some u) : Inv X pins σ H { s with heap := h', toks := t' } := I.un (Un.kept k) (I.hok.kept k)
/-- a new object laid and tracked -/
theorem Inv.laid {a : Addr} {o : HO} {t' : Nat} (I : Inv X pins σ H s) (k : ∀ b u, s.heap.get? b = some u → h'.get? b = some u) (hp : s.heap.objs.size ≤ a) (new : ObjOk X.prog X.w (upd H a o) h' a o) :
    Inv X pins σ (upd H a o) { s with heap := h', toks := t' } := I.un (Un.laid k hp (I.hok.fresh hp)) (I.hok.laid k hp new)
/-- an object written -/
theorem Inv.write {x e : Addr} {o : HO} {t' : Nat} (I : Inv X pins σ H s) (mu : Mut (H x)) (he : e = x ∨ H e = some (.own x)) (k : ∀ b u, b ≠ e → s.heap.get? b = some u → h'.get? b = some u) (heo : ∃ u, h'.get? e = some u)
    (new : ObjOk X.prog X.w (upd H x o) h' x o) : Inv X pins σ (upd H x o) { s with heap := h', toks := t' } := I.un (Un.write mu he k heo) (I.hok.write mu he k heo new)
theorem Inv.pins_of {pins' : List (Addr × Obj)} (I : Inv X pins σ H s) (h : ∀ p ∈ pins', s.heap.get? p.1 = some p.2 ∧ H p.1 = none ∧ p.1 ≠ X.env.locals ∧ p.1 ∉ X.fs ∧ ∀ v, p.2.data ≠ .cell v) : Inv X pins' σ H s :=
  ⟨I.ok, I.os, I.bare, I.base, I.loc, I.cell, I.free, I.freeC, fun p hp => (List.mem_append.mp hp).elim (fun z => I.pin p (List.mem_append_left _ z)) (h p), I.hok, I.len⟩

theorem nodup_ix {N : List Str} (hN : N.Nodup) {i j : Nat} {x : Str} (a : N[i]? = some x) (b : N[j]? = some x) : i = j := by
  obtain ⟨h1, e1⟩ := List.getElem?_eq_some_iff.mp a
  obtain ⟨h2, e2⟩ := List.getElem?_eq_some_iff.mp b
  exact (List.getElem_inj hN).mp (e1.trans e2.symm)

/-- a name is stored; what changed -/
theorem store_ok2 {M : Model} {A : Around} {E : Value → Shared → Prop} {i : Nat} {x : Str} {v : V} {u : Value} {Q : Unit → Shared → Prop} (I : Inv X pins σ H s) (hN : X.N.Nodup) (hi : X.N[i]? = some x) (hx : Loc X.env.scope x) (r : RelV v u)
    (h : ∀ s', Inv X pins (σ.set i (some v)) H s' → (∃ a, Heap.SameBut a s.heap s'.heap ∧ (a = X.env.locals ∨ X.env.cells.lookup x = some a)) → Q () s') (hf : X.fn x = true ∨ X.env.scope.names.lookup x = some .local := by first | exact .inl rfl | exact .inr rfl | assumption) : wpAny M A (storeName X.env x u) Q E s := by
  obtain ⟨m, hn, hl⟩ := id I.loc
  have hcls : (X.env.scope.kind == .class || (X.env.scope.kind == .module && X.env.locals != X.env.globals)) = false := by rw [I.ok.kind]; rfl
  have hiσ : i < σ.length := by rw [I.len]; exact (List.getElem?_eq_some_iff.mp hi).1
  have cne := I.cne
  have tracked : ∀ {a : Addr} {h' : Heap}, (∃ o, s.heap.get? a = some o ∧ H a = none) → Heap.SameBut a s.heap h' → HOk X.prog X.w H h' := fun {a h'} ha hs b ob e => by
    obtain ⟨_, _, hfree⟩ := ha
    refine (I.hok b ob e).stay (fun c w' hc q => (hs.2 c ?_).trans q) (fun _ q => q) fun _ _ q => q
    rintro rfl
    rcases hc with rfl | hc
    · rw [hfree] at e; cases e
    · rw [hfree] at hc; cases hc
  rcases hx with hk | hk
  · refine wpAny_storeName_local hk hn (fun h' hn' hs => ?_) hcls
    obtain ⟨oL, _, _, hoL, _⟩ := id hn
    refine h _ ⟨I.ok, I.os, I.bare, ⟨fun b o e n hb hx => ?_, fun b o e n hb hx => ?_, I.base.free, fun b o e hx => ?_, I.base.tups, I.base.frzs, I.base.tbls⟩, ⟨_, hn', fun j y v' e1 e2 e3 => ?_⟩, fun y c e => ?_, I.free, I.freeC, fun p hp => ?_, tracked ⟨oL, hoL, I.free⟩ hs, by simpa using I.len⟩ ⟨_, hs, .inl rfl⟩
    · exact (hs.2 b (Nat.ne_of_lt (Nat.lt_of_lt_of_le (Heap.lt_size e) I.ok.above))).trans (I.base.keep b o e n hb hx)
    · obtain ⟨sl, e1⟩ := I.base.slot b o e n hb hx
      exact ⟨sl, (hs.2 b (Nat.ne_of_lt (Nat.lt_of_lt_of_le (Heap.lt_size e) I.ok.above))).trans e1⟩
    · obtain ⟨o', e1⟩ := I.base.there b o e hx
      exact ⟨o', (hs.2 b (Nat.ne_of_lt (Nat.lt_of_lt_of_le (Heap.lt_size e) I.ok.above))).trans e1⟩
    · by_cases hj : j = i
      · subst hj
        rw [hi] at e1; cases e1
        rw [List.getElem?_set_self hiσ] at e2
        cases e2
        exact ⟨u, r, .inl ⟨hk, by simp⟩⟩
      · rw [List.getElem?_set_ne (Ne.symm hj)] at e2
        obtain ⟨u', r', q⟩ := hl j y v' e1 e2 e3
        refine ⟨u', r', ?_⟩
        rcases q with ⟨k, e⟩ | ⟨k, c, e, z⟩
        · refine .inl ⟨k, ?_⟩
          have : y ≠ x := fun e => hj (nodup_ix hN e1 (e ▸ hi))
          simp [this, e]
        · exact .inr ⟨k, c, e, z.sameBut hs (cne y c e)⟩
    · obtain ⟨w', z⟩ := I.cell y c e
      exact ⟨w', z.sameBut hs (cne y c e)⟩
    · obtain ⟨e, n, ne, nf, d⟩ := I.pin p hp
      exact ⟨(hs.2 p.1 ne).trans e, n, ne, nf, d⟩
  · have hfn : X.fn x = true := by
      rcases hf with z | z
      · exact z
      · rw [z] at hk; cases hk
    obtain ⟨c, hc⟩ := I.ok.has x (.inl hk)
    obtain ⟨w', z⟩ := I.cell x c hc
    refine wpAny_storeName_cell I.ok.kind hk hc z (fun h' hc' hs => ?_)
    obtain ⟨oc, hoc, hocd⟩ := id z
    refine h { s with heap := h' } ⟨I.ok, I.os, I.bare, ⟨fun b o e n hb hx => ?_, fun b o e n hb hx => ?_, I.base.free, fun b o e hx => ?_, I.base.tups, I.base.frzs, I.base.tbls⟩, ⟨m, hn.sameBut hs (Ne.symm (cne x c hc)), fun j y v' e1 e2 e3 => ?_⟩, fun y c' e => ?_, I.free, I.freeC, fun p hp => ?_, tracked ⟨oc, hoc, I.freeC x c hc⟩ hs, by simpa using I.len⟩ ⟨c, hs, .inr hc⟩
    · exact (hs.2 b (Nat.ne_of_lt (Nat.lt_of_lt_of_le (Heap.lt_size e) (I.ok.cab x c hfn hc)))).trans (I.base.keep b o e n hb hx)
    · obtain ⟨sl, e1⟩ := I.base.slot b o e n hb hx
      exact ⟨sl, (hs.2 b (Nat.ne_of_lt (Nat.lt_of_lt_of_le (Heap.lt_size e) (I.ok.cab x c hfn hc)))).trans e1⟩
    · obtain ⟨o', e1⟩ := I.base.there b o e hx
      exact ⟨o', (hs.2 b (Nat.ne_of_lt (Nat.lt_of_lt_of_le (Heap.lt_size e) (I.ok.cab x c hfn hc)))).trans e1⟩
    · by_cases hj : j = i
      · subst hj
        rw [hi] at e1; cases e1
        rw [List.getElem?_set_self hiσ] at e2
        cases e2
        exact ⟨u, r, .inr ⟨.inl hk, c, hc, hc'⟩⟩
      · rw [List.getElem?_set_ne (Ne.symm hj)] at e2
        obtain ⟨u', r', q⟩ := hl j y v' e1 e2 e3
        refine ⟨u', r', ?_⟩
        rcases q with q | ⟨k, c', e, z'⟩
        · exact .inl q
        · refine .inr ⟨k, c', e, z'.sameBut hs ?_⟩
          rintro rfl
          exact hj (nodup_ix hN e1 (I.ok.inj _ _ _ e hc ▸ hi))
    · by_cases hcc : c' = c
      · subst hcc; exact ⟨_, hc'⟩
      · obtain ⟨w2, z2⟩ := I.cell y c' e
        exact ⟨w2, z2.sameBut hs hcc⟩
    · obtain ⟨e, n, ne, nf, d⟩ := I.pin p hp
      refine ⟨(hs.2 p.1 ?_).trans e, n, ne, nf, d⟩
      intro q
      rw [q, hoc] at e
      have q' : oc = p.2 := Option.some.inj e
      exact d w' (by rw [← q']; exact hocd)
theorem store_ok {M : Model} {A : Around} {E : Value → Shared → Prop} {i : Nat} {x : Str} {v : V} {u : Value} {Q : Unit → Shared → Prop} (I : Inv X pins σ H s) (hN : X.N.Nodup) (hi : X.N[i]? = some x) (hx : Loc X.env.scope x) (r : RelV v u)
    (h : ∀ s', Inv X pins (σ.set i (some v)) H s' → Q () s') (hf : X.fn x = true ∨ X.env.scope.names.lookup x = some .local := by first | exact .inl rfl | exact .inr rfl | assumption) : wpAny M A (storeName X.env x u) Q E s :=
  store_ok2 I hN hi hx r (fun s' I' _ => h s' I') hf
end

/-! ### the judgements -/
/-- an exception: its class, its own dict's address (where it has one), the abstract heap behind it -/
abbrev XK := Value → Option Addr → Hp → Prop
abbrev St := List (Option V)
abbrev VK := V → Hp → Prop
/-- an expression's reading; a test's; an argument list's -/
abbrev TE := St → Hp → VK → Prop
abbrev TT := St → Hp → (Bool → Hp → Prop) → Prop
abbrev TA := St → Hp → (List V → Hp → Prop) → Prop
/-- what is wanted behind a statement -/
structure Ends where
  nx : St → Hp → Prop
  rt : VK
  bk : St → Hp → Prop := fun _ _ => False
  ct : St → Hp → Prop := fun _ _ => False
abbrev TS := Ends → St → Hp → Prop

def EP (X : Cx) (pins : List (Addr × Obj)) (σ : St) (Q : VK) (u : Value) (s' : Shared) : Prop := ∃ v H', Inv X pins σ H' s' ∧ RelV v u ∧ Q v H'
def TP (X : Cx) (pins : List (Addr × Obj)) (σ : St) (Q : Bool → Hp → Prop) (b : Bool) (s' : Shared) : Prop := ∃ H', Inv X pins σ H' s' ∧ Q b H'
def AP (X : Cx) (pins : List (Addr × Obj)) (σ : St) (Q : List V → Hp → Prop) (us : List Value) (s' : Shared) : Prop := ∃ vs H', Inv X pins σ H' s' ∧ Vals vs us ∧ Q vs H'
def SP (X : Cx) (pins : List (Addr × Obj)) (D : Ends) (f : Flow) (s' : Shared) : Prop :=
  match f with
  | .next => ∃ σ' H', Inv X pins σ' H' s' ∧ D.nx σ' H'
  | .brk => ∃ σ' H', Inv X pins σ' H' s' ∧ D.bk σ' H'
  | .cont => ∃ σ' H', Inv X pins σ' H' s' ∧ D.ct σ' H'
  | .ret u => ∃ v σ' H', Inv X pins σ' H' s' ∧ RelV v u ∧ D.rt v H'

def PE (X : Cx) (e : Expr) (t : TE) : Prop :=
  ∀ (pins : List (Addr × Obj)) (s : Shared) (σ : St) (H : Hp) (Q : VK), Inv X pins σ H s → t σ H Q → wpAny (model X.prog X.w) X.A (eval e X.env) (EP X pins σ Q) X.xe s
def PT (X : Cx) (e : Expr) (t : TT) : Prop :=
  ∀ (pins : List (Addr × Obj)) (s : Shared) (σ : St) (H : Hp) (Q : Bool → Hp → Prop), Inv X pins σ H s → t σ H Q → wpAny (model X.prog X.w) X.A (isTrue e X.env (eval e X.env)) (TP X pins σ Q) X.xe s
/-- a test whatever its 'whole' is (and, or) -/
def PW (X : Cx) (e : Expr) (t : TT) : Prop :=
  ∀ (whole : Sem Value) (pins : List (Addr × Obj)) (s : Shared) (σ : St) (H : Hp) (Q : Bool → Hp → Prop), Inv X pins σ H s → t σ H Q → wpAny (model X.prog X.w) X.A (isTrue e X.env whole) (TP X pins σ Q) X.xe s
theorem PW.pt {X : Cx} {e : Expr} {t : TT} (h : PW X e t) : PT X e t := h _
/-- an argument list (no star), from the left -/
def PA (X : Cx) (es : List Expr) (t : TA) : Prop :=
  ∀ (pos : Pos) (pins : List (Addr × Obj)) (s : Shared) (σ : St) (H : Hp) (Q : List V → Hp → Prop), Inv X pins σ H s → t σ H Q → wpAny (model X.prog X.w) X.A (spliced (backTo pos (starEach es X.env))) (AP X pins σ Q) X.xe s
def PS (X : Cx) (st : Stmt) (t : TS) : Prop :=
  ∀ (pins : List (Addr × Obj)) (s : Shared) (σ : St) (H : Hp) (D : Ends), Inv X pins σ H s → t D σ H → wpAny (model X.prog X.w) X.A (exec st X.env) (SP X pins D) X.xe s
def PSs (X : Cx) (st : List Stmt) (t : TS) : Prop :=
  ∀ (pins : List (Addr × Obj)) (s : Shared) (σ : St) (H : Hp) (D : Ends), Inv X pins σ H s → t D σ H → wpAny (model X.prog X.w) X.A (execs st X.env) (SP X pins D) X.xe s
/-- weaken the end -/
theorem thn {α : Type} {t : Sem α} {Q Q' : α → Shared → Prop} {M : Model} {A : Around} {E : Value → Shared → Prop} {s : Shared} (h : wpAny M A t Q E s) (hQ : ∀ a s, Q a s → Q' a s) : wpAny M A t Q' E s := wpAny_mono h hQ fun _ _ x => x
end L2

namespace L2
open PySem PySem.Spec PyProof.Rows
section
variable {X : Cx}

/-! ### names and constants -/
def tVar (i : Nat) : TE := fun σ H Q => ∃ v, σ[i]? = some (some v) ∧ Q v H
def tC (v : V) : TE := fun _ H Q => Q v H
theorem pe_var {i : Nat} {x : Str} {pos : Pos} (hN : X.N[i]? = some x) (hv : Vis X.env.scope x) (hd : (x == ("__debug__" : Str)) = false := by decide) (hcd : (x == ("__classdict__" : Str)) = false := by decide) : PE X (.Name x pos) (tVar i) := by
  intro pins s σ H Q I h
  obtain ⟨v, e, h⟩ := h
  obtain ⟨m, hn, hl⟩ := I.loc
  obtain ⟨u, r, l⟩ := hl i x v hN e hv
  have fin : EP X pins σ Q u s := ⟨v, H, I, r, h⟩
  rcases l with ⟨hk, hm⟩ | ⟨hk, c, hc, hcell⟩
  · exact wpAny_Name (wpAny_loadName_local I.ok.kind hk hn hm fin) hd
  · rcases hk with hk | hk
    · exact wpAny_Name (wpAny_loadName_cell I.ok.kind hk hc hcell fin) hd
    · exact wpAny_Name (wpAny_loadName_free I.ok.kind hk hc hcell fin hcd) hd
theorem pe_int {i j pos} : PE X (.Constant (.int i) j pos) (tC (.int i)) := fun _ _ _ H _ I h => wpAny_Constant_int ⟨.int i, H, I.tok _, ⟨_, rfl⟩, h⟩
theorem pe_bl {b j pos} : PE X (.Constant (.bool b) j pos) (tC (.bl b)) := fun _ _ _ H _ I h => Constant_bool ⟨.bl b, H, I, rfl, h⟩
/-- a global name of the def -/
def Gl (X : Cx) (x : Str) : Prop := X.env.kindOf x = some .globalImplicit
theorem ld_glob {E : Value → Shared → Prop} {pins : List (Addr × Obj)} {s : Shared} {σ : St} {H : Hp} {x : Str} {u : Value} {pos : Pos} {Q : Value → Shared → Prop} (I : Inv X pins σ H s) (hg : Gl X x) (hm : X.mg x = some u) (h : Q u s)
    (hd : (x == ("__debug__" : Str)) = false := by decide) : wpAny (model X.prog X.w) X.A (eval (.Name x pos) X.env) Q E s :=
  Calls.Name_function_global I.ok.kind hg (Calls.loadGlobal_global (by rw [I.ok.glob]; exact I.mod.glob.keeps I.bk) hm h) hd
theorem ld_blt {E : Value → Shared → Prop} {pins : List (Addr × Obj)} {s : Shared} {σ : St} {H : Hp} {x : Str} {u : Value} {pos : Pos} {Q : Value → Shared → Prop} (I : Inv X pins σ H s) (hg : Gl X x) (hm : X.mg x = none) (hv : bootBuiltins x = some u) (h : Q u s)
    (hn : x ≠ "__name__" := by decide) (hd : (x == ("__debug__" : Str)) = false := by decide) : wpAny (model X.prog X.w) X.A (eval (.Name x pos) X.env) Q E s := by
  obtain ⟨mb, h1, h2⟩ := I.mod.blt
  exact Calls.Name_function_global I.ok.kind hg (Calls.loadGlobal_builtin (by rw [I.ok.glob]; exact I.mod.glob.keeps I.bk) hm (by rw [I.ok.blt]; exact h1.keeps I.bk) ((h2 x hn).trans hv) h) hd
theorem pe_bltn {x : Str} {v : V} {u : Value} {pos : Pos} (hg : Gl X x) (hm : X.mg x = none) (hv : bootBuiltins x = some u) (r : RelV v u) (hn : x ≠ "__name__" := by decide) (hd : (x == ("__debug__" : Str)) = false := by decide) : PE X (.Name x pos) (tC v) :=
  fun _ _ _ H _ I h => ld_blt I hg hm hv ⟨v, H, I, r, h⟩ hn hd

/-! ### arithmetic -/
variable {a b : Expr} {ta tb : TE} {pos : Pos}
/-! ### comparisons -/
/-- a comparison as a value, as a test -/
def tB (t : TE) : TT := fun σ H Q => t σ H fun x H1 => ∃ c, x = .bl c ∧ Q c H1
/-- an expression whose value is a bool, as a test -/
theorem pt_val {e : Expr} {t : TE} (h : PE X e t) (he : ∀ whole, isTrue e X.env whole = (do let v ← whole; standAt e.pos; holding [v] (truthy v)) := by intro _; rfl) : PT X e (tB t) := by
  intro pins s σ H Q I hw
  refine isTrue_plain (thn (h pins s σ H _ I hw) fun v s1 ⟨x, H1, I1, r1, q1⟩ => ?_) (he _)
  obtain ⟨d, rfl, q⟩ := q1
  cases r1
  exact wpAny_truthy_bool ⟨H1, I1, q⟩

/-! ### and, or, not -/
variable {tA tB' : TT} {rest : List Expr}
def tOr (t u : TT) : TT := fun σ H Q => t σ H fun c H1 => if c = true then Q true H1 else u σ H1 Q
def tNot (t : TT) : TT := fun σ H Q => t σ H fun c H1 => Q (!c) H1
theorem pw_or1 (ha : PT X a tA) : PW X (.BoolOp .Or [a] pos) tA := by
  intro wh pins s σ H Q I h
  refine isTrue_or (thn (ha pins s σ H Q I h) fun c s1 e => ?_)
  cases c with
  | false => exact isTrue_or_nil e
  | true => exact e
theorem pw_or (ha : PT X a tA) (hb : PW X (.BoolOp .Or (b :: rest) pos) tB') : PW X (.BoolOp .Or (a :: b :: rest) pos) (tOr tA tB') := by
  intro wh pins s σ H Q I h
  refine isTrue_or (thn (ha pins s σ H _ I h) fun c s1 ⟨H1, I1, q1⟩ => ?_)
  cases c with
  | true => exact ⟨H1, I1, q1⟩
  | false => exact hb wh pins s1 σ H1 Q I1 q1
theorem pt_not (ha : PT X a tA) : PT X (.UnaryOp .Not a pos) (tNot tA) := by
  intro pins s σ H Q I h
  exact isTrue_not (ha pins s σ H (fun c H1 => Q (!c) H1) I h)
/-- .. as values (bools) -/
def tAndV (ta tb : TE) : TE := fun σ H Q => ta σ H fun x H1 => ∃ c, x = .bl c ∧ if c = true then tb σ H1 Q else Q (.bl false) H1
theorem pe_one {op} {t : TE} (h : PE X a t) : PE X (.BoolOp op [a] pos) t := fun pins s σ H Q I hw => BoolOp_one (h pins s σ H Q I hw)
theorem pe_and (ha : PE X a ta) (hb : PE X (.BoolOp .And (b :: rest) pos) tb) : PE X (.BoolOp .And (a :: b :: rest) pos) (tAndV ta tb) := by
  intro pins s σ H Q I h
  refine BoolOp_and (thn (ha pins s σ H _ I h) fun v s1 ⟨x, H1, I1, r1, q1⟩ => ?_)
  obtain ⟨c, rfl, q1⟩ := q1
  cases r1
  refine wpAny_truthy_bool ?_
  cases c with
  | true => exact hb pins s1 σ H1 Q I1 q1
  | false => exact ⟨.bl false, H1, I1, rfl, q1⟩
end
end L2

namespace L2
open PySem PySem.Spec PyProof.Rows

/-! ### a list, a tuple that is read: tracked, frozen, or an object of the module -/
def SqL (K : PySem.W.Frag) (H : Hp) (a : Addr) (xs : List V) : Prop :=
  Rd H a (.lst xs) ∨
    ∃ (o : Obj) (its : Array Value) (n : Nat), K.lookup a = some o ∧ o.cls = .type "list" ∧ o.dict = none ∧ o.data = .seq its n ∧ its.size ≤ sizeLine ∧ Vals xs its.toList
def SqT (K : PySem.W.Frag) (H : Hp) (a : Addr) (xs : List V) : Prop :=
  Rd H a (.tup xs) ∨
    ∃ (o : Obj) (its : Array Value) (n : Nat), K.lookup a = some o ∧ o.cls = .type "tuple" ∧ o.data = .seq its n ∧ its.size ≤ sizeLine ∧ Vals xs its.toList
def absV : Value → Option V
  | .none => some .non
  | .bool b => some (.bl b)
  | .int i _ => some (.int i)
  | .str x _ => some (.str x)
  | .bytes b _ => some (.byt b)
  | .float b _ => some (.flt b)
  | .ref a => some (.ref a)
  | .type n => some (.ty n)
  | _ => none
theorem RelV.abs {x : V} {u : Value} (r : RelV x u) : absV u = some x := by
  cases x with
  | non => cases r; rfl
  | bl _ => cases r; rfl
  | int _ => obtain ⟨t, rfl⟩ := r; rfl
  | str _ => obtain ⟨t, rfl⟩ := r; rfl
  | byt _ => obtain ⟨t, rfl⟩ := r; rfl
  | flt _ => obtain ⟨t, rfl⟩ := r; rfl
  | ref _ => cases r; rfl
  | ty _ => cases r; rfl
theorem RelV.inj {x y : V} {u : Value} (r : RelV x u) (q : RelV y u) : x = y := Option.some.inj (r.abs.symm.trans q.abs)
theorem Vals.inj : ∀ {xs ys : List V} {us : List Value}, Vals xs us → Vals ys us → xs = ys
  | _, _, _, .nil, .nil => rfl
  | _, _, _, .cons r t, .cons r' t' => by rw [r.inj r', Vals.inj t t']
section
variable {X : Cx} {pins : List (Addr × Obj)} {σ : St} {H : Hp} {s : Shared} {a : Addr} {xs ys : List V}
theorem SqL.of {K : PySem.W.Frag} (h : H a = some (.lst xs)) : SqL K H a xs := .inl (.inl h)
theorem SqT.of {K : PySem.W.Frag} (h : H a = some (.tup xs)) : SqT K H a xs := .inl (.inl h)
theorem Inv.list (I : Inv X pins σ H s) (h : SqL X.K H a xs) : ∃ its : List Value, Vals xs its ∧ PlainL s.heap a its.toArray ∧ xs.length ≤ sizeLine := by
  rcases h with h | ⟨o, its, n, hk, hc, hd, hs, hz, r⟩
  · obtain ⟨z, its, n, r, e⟩ := h.ok I.hok
    exact ⟨its, r, ⟨_, n, e, rfl, rfl, rfl⟩, z⟩
  · refine ⟨its.toList, r, ⟨o, n, I.kIn a o hk, hc, hd, by simpa using hs⟩, ?_⟩
    have e := r.length
    simp only [Array.length_toList] at e
    omega
theorem Inv.tuple (I : Inv X pins σ H s) (h : SqT X.K H a xs) : ∃ its : List Value, Vals xs its ∧ IsTup s.heap a its.toArray ∧ xs.length ≤ sizeLine := by
  rcases h with h | ⟨o, its, n, hk, hc, hs, hz, r⟩
  · obtain ⟨z, its, r, p⟩ := h.ok I.hok
    exact ⟨its, r, p, z⟩
  · refine ⟨its.toList, r, ⟨o, I.kIn a o hk, hc, n, by simpa using hs⟩, ?_⟩
    have e := r.length
    simp only [Array.length_toList] at e
    omega
theorem Inv.list_inj (I : Inv X pins σ H s) (h : SqL X.K H a xs) (h' : SqL X.K H a ys) : xs = ys := by
  obtain ⟨its, r, ⟨o, n, e, _, _, d⟩, _⟩ := I.list h
  obtain ⟨its', r', ⟨o', n', e', _, _, d'⟩, _⟩ := I.list h'
  rw [e] at e'; cases e'
  rw [d] at d'
  injection d' with d1 _
  have : its = its' := by simpa using congrArg Array.toList d1
  subst this
  exact r.inj r'
end

/-! ### another wish about exceptions -/
abbrev Cx.wish (X : Cx) (E : Value → Shared → Prop) : Cx := { X with xe := E }
/-- no exception leaves -/
abbrev Cx.nox (X : Cx) : Cx := X.wish fun _ _ => False
theorem Cx.Ok.wish {X : Cx} (ok : X.Ok) (E : Value → Shared → Prop) : (X.wish E).Ok :=
  ⟨ok.mod, ok.kind, ok.glob, ok.blt, ok.above, ok.inj, ok.has, ok.cab, ok.hd, ok.frames, ok.stk, ok.exf, ok.bs, ok.bsz, ok.noex, ok.exfs, ok.funs, ok.frf⟩
theorem Cx.Ok.unwish {X : Cx} {E : Value → Shared → Prop} (ok : (X.wish E).Ok) : X.Ok :=
  ⟨ok.mod, ok.kind, ok.glob, ok.blt, ok.above, ok.inj, ok.has, ok.cab, ok.hd, ok.frames, ok.stk, ok.exf, ok.bs, ok.bsz, ok.noex, ok.exfs, ok.funs, ok.frf⟩
section
variable {X : Cx} {pins : List (Addr × Obj)} {σ : St} {H : Hp} {s : Shared} {E : Value → Shared → Prop}
theorem Inv.wish (I : Inv X pins σ H s) (E : Value → Shared → Prop) : Inv (X.wish E) pins σ H s := ⟨I.ok.wish E, I.os, I.bare, I.base, I.loc, I.cell, I.free, I.freeC, I.pin, I.hok, I.len⟩
theorem Inv.unwish (I : Inv (X.wish E) pins σ H s) : Inv X pins σ H s := ⟨I.ok.unwish, I.os, I.bare, I.base, I.loc, I.cell, I.free, I.freeC, I.pin, I.hok, I.len⟩
theorem SP.unwish {D : Ends} {f : Flow} {s' : Shared} (h : SP (X.wish E) pins D f s') : SP X pins D f s' := by
  cases f with
  | next => obtain ⟨σ', H', I, q⟩ := h; exact ⟨σ', H', I.unwish, q⟩
  | brk => obtain ⟨σ', H', I, q⟩ := h; exact ⟨σ', H', I.unwish, q⟩
  | cont => obtain ⟨σ', H', I, q⟩ := h; exact ⟨σ', H', I.unwish, q⟩
  | ret u => obtain ⟨v, σ', H', I, r, q⟩ := h; exact ⟨v, σ', H', I.unwish, r, q⟩
theorem PE.nox {e : Expr} {t : TE} (h : PE X.nox e t) : PE X e t := fun pins s σ H Q I hw =>
  wpAny_mono (h pins s σ H Q (I.wish _) hw) (fun _ _ ⟨v, H', I', r, q⟩ => ⟨v, H', I'.unwish, r, q⟩) fun _ _ z => False.elim z
theorem PT.nox {e : Expr} {t : TT} (h : PT X.nox e t) : PT X e t := fun pins s σ H Q I hw =>
  wpAny_mono (h pins s σ H Q (I.wish _) hw) (fun _ _ ⟨H', I', q⟩ => ⟨H', I'.unwish, q⟩) fun _ _ z => False.elim z
theorem PSs.nox {st : List Stmt} {t : TS} (h : PSs X.nox st t) : PSs X st t := fun pins s σ H D I hw =>
  wpAny_mono (h pins s σ H D (I.wish _) hw) (fun _ _ q => q.unwish) fun _ _ z => False.elim z
end

/-! ### blocks and small statements -/
section
variable {X : Cx} {st : Stmt} {rest : List Stmt} {t u : TS} {e : Expr} {te : TE} {pos : Pos}
def tNext : TS := fun D σ H => D.nx σ H
def tSeq (t u : TS) : TS := fun D σ H => t { D with nx := u D } σ H
theorem pss_nil : PSs X [] tNext := fun _ _ σ H _ I h => wpAny_execs_nil ⟨σ, H, I, h⟩
theorem pss_cons (h1 : PS X st t) (h2 : PSs X rest u) : PSs X (st :: rest) (tSeq t u) := by
  intro pins s σ H D I h
  refine wpAny_execs_cons (thn (h1 pins s σ H { D with nx := u D } I h) fun f s1 q => ?_)
  cases f with
  | next =>
    obtain ⟨σ', H', I', q⟩ := q
    exact h2 pins s1 σ' H' D I' q
  | ret v => exact q
  | brk => exact q
  | cont => exact q
theorem pss_one (h1 : PS X st t) : PSs X [st] t := by
  intro pins s σ H D I h
  refine wpAny_execs_cons (thn (h1 pins s σ H D I h) fun f s1 q => ?_)
  cases f with
  | next => exact wpAny_execs_nil q
  | ret v => exact q
  | brk => exact q
  | cont => exact q
def tRet (te : TE) : TS := fun D σ H => te σ H D.rt
theorem ps_ret (he : PE X e te) : PS X (.Return (some e) pos) (tRet te) := by
  intro pins s σ H D I h
  exact wpAny_Return_some (thn (he pins s σ H _ I h) fun v s1 ⟨x, H1, I1, r1, q1⟩ => ⟨x, σ, H1, I1, r1, q1⟩)
def tIfS (c : TT) (t u : TS) : TS := fun D σ H => c σ H fun b H1 => if b = true then t D σ H1 else u D σ H1
theorem ps_if {c : Expr} {a b : List Stmt} {tc : TT} (hc : PT X c tc) (ha : PSs X a t) (hb : PSs X b u) : PS X (.If c a b pos) (tIfS tc t u) := by
  intro pins s σ H D I h
  refine wpAny_If (thn (hc pins s σ H _ I h) fun d s1 ⟨H1, I1, q1⟩ => ?_)
  cases d with
  | true => exact ha pins s1 σ H1 D I1 q1
  | false => exact hb pins s1 σ H1 D I1 q1
end

/-! ### targets -/
abbrev TG := V → St → Hp → (St → Hp → Prop) → Prop
abbrev TGs := List V → St → Hp → (St → Hp → Prop) → Prop
def PG (X : Cx) (target : Expr) (t : TG) : Prop :=
  ∀ (pins : List (Addr × Obj)) (s : Shared) (σ : St) (H : Hp) (v : V) (u : Value) (Q : St → Hp → Prop), Inv X pins σ H s → RelV v u → t v σ H Q →
    wpAny (model X.prog X.w) X.A (assign target X.env u) (fun _ s' => ∃ σ' H', Inv X pins σ' H' s' ∧ Q σ' H') X.xe s
/-- several targets, one after another -/
def PGs (X : Cx) (ts : List Expr) (t : TGs) : Prop :=
  ∀ (pins : List (Addr × Obj)) (s : Shared) (σ : St) (H : Hp) (vs : List V) (us : List Value) (Q : St → Hp → Prop), Inv X pins σ H s → Vals vs us → t vs σ H Q →
    wpAny (model X.prog X.w) X.A (assignInOrder ((assignEach ts X.env).map (·.2)) us) (fun _ s' => ∃ σ' H', Inv X pins σ' H' s' ∧ Q σ' H') X.xe s
/-- o[i] = v, by values -/
abbrev TSet := V → V → V → Hp → (Hp → Prop) → Prop
def PSet (X : Cx) (t : TSet) : Prop :=
  ∀ (pins : List (Addr × Obj)) (s : Shared) (σ : St) (H : Hp) (o i v : V) (ov iv u : Value) (Q : Hp → Prop), Inv X pins σ H s → RelV o ov → RelV i iv → RelV v u → t o i v H Q →
    wpAny (model X.prog X.w) X.A (setItem ov iv u) (fun _ s' => ∃ H', Inv X pins σ H' s' ∧ Q H') X.xe s
section
variable {X : Cx} {pos : Pos}
def gName (i : Nat) : TG := fun v σ H Q => Q (σ.set i (some v)) H
theorem pg_name {i : Nat} {x : Str} (hN : X.N.Nodup) (hi : X.N[i]? = some x) (hx : Loc X.env.scope x) (hf : X.fn x = true ∨ X.env.scope.names.lookup x = some .local := by first | exact .inl rfl | exact .inr rfl | assumption) : PG X (.Name x pos) (gName i) := by
  intro pins s σ H v u Q I r h
  exact wpAny_assign_Name (store_ok I hN hi hx r (fun s' I' => ⟨_, H, I', h⟩) hf)
def gNil : TGs := fun vs σ H Q => vs = [] ∧ Q σ H
def gCons (t : TG) (u : TGs) : TGs := fun vs σ H Q => ∃ v r, vs = v :: r ∧ t v σ H fun σ' H' => u r σ' H' Q
theorem pgs_nil : PGs X [] gNil := by
  intro pins s σ H vs us Q I r h
  obtain ⟨e, h⟩ := h
  subst e
  cases r
  exact assignInOrder_nil ⟨σ, H, I, h⟩
theorem pgs_cons {e : Expr} {es : List Expr} {t : TG} {u : TGs} (h1 : PG X e t) (h2 : PGs X es u)
    (hs : (assignEach (e :: es) X.env).map (·.2) = assign e X.env :: (assignEach es X.env).map (·.2) := by rfl) : PGs X (e :: es) (gCons t u) := by
  intro pins s σ H vs us Q I r h
  obtain ⟨v, vr, e1, h⟩ := h
  subst e1
  cases r with
  | cons r rr =>
    rw [hs]
    refine assignInOrder_cons (thn (h1 pins s σ H _ _ _ I r h) fun _ s1 ⟨σ1, H1, I1, q1⟩ => ?_)
    exact h2 pins s1 σ1 H1 _ _ Q I1 rr q1
/-- (a, b, ..) = a tuple of that length -/
def gTup (K : PySem.W.Frag) (n : Nat) (t : TGs) : TG := fun v σ H Q => ∃ a xs, v = .ref a ∧ SqT K H a xs ∧ xs.length = n ∧ t xs σ H Q
theorem pg_tup {es : List Expr} {k : Nat} {t : TGs} {n : Nat} (hc : X.calm = true) (h : PGs X es t)
    (hn : (assignEach es X.env).length = n := by rfl) (hst : (assignEach es X.env).findIdx? (·.1) = none := by rfl) : PG X (.Tuple es k pos) (gTup X.K n t) := by
  intro pins s σ H v u Q I r hw
  obtain ⟨a, xs, e1, hq, hl, hw⟩ := hw
  subst e1
  cases r
  obtain ⟨its, rv, ht, hz⟩ := I.tuple hq
  refine assign_Tuple_tuple (I.ok.hd hc) ht (by simp [hn, ← hl, rv.length]) hst fun h' hx => ?_
  have I1 : Inv X pins σ H { s with heap := h' } := I.kept (t' := s.toks) fun b o e => hx b o (Nat.ne_of_lt (Heap.lt_size e)) e
  exact h pins _ σ H xs _ Q I1 (by simpa using rv) hw
/-- o[i] = .. -/
def gSub (to ti : TE) (t : TSet) : TG := fun v σ H Q => to σ H fun o H1 => ti σ H1 fun i H2 => t o i v H2 fun H3 => Q σ H3
theorem pg_sub {o i : Expr} {to ti : TE} {t : TSet} (ho : PE X o to) (hi : PE X i ti) (hs : PSet X t)
    (ha : ∀ v, assign (.Subscript o i pos) X.env v = (do
      let ov ← holding [v] (eval o X.env)
      let iv ← holding [v, ov] (eval i X.env)
      standAt pos
      holding [v, ov, iv] (setItem ov iv v)
      release [v, ov, iv] []) := by intro _; rfl) : PG X (.Subscript o i pos) (gSub to ti t) := by
  intro pins s σ H v u Q I r h
  rw [ha]
  refine wpAny_bind (wpAny_holding (thn (ho pins s σ H _ I h) fun ov s1 ⟨x, H1, I1, r1, q1⟩ => ?_))
  refine wpAny_bind (wpAny_holding (thn (hi pins s1 σ H1 _ I1 q1) fun iv s2 ⟨y, H2, I2, r2, q2⟩ => ?_))
  refine wpAny_bind (wpAny_standAt (wpAny_bind (wpAny_holding (thn (hs pins s2 σ H2 x y v ov iv u _ I2 r1 r2 r q2) fun _ s3 ⟨H3, I3, q3⟩ => ?_))))
  exact wpAny_release ⟨σ, H3, I3, q3⟩
/-- target = value -/
def tAsg (te : TE) (g : TG) : TS := fun D σ H => te σ H fun x H1 => g x σ H1 D.nx
theorem ps_asg {tg e : Expr} {te : TE} {g : TG} (he : PE X e te) (hg : PG X tg g) (hs : swapsWithSole [tg] e pos.line X.env = pure false := by rfl) (hw : swappedStores [tg] e X.env = pure none := by rfl)
    (h1 : (assignEach [tg] X.env).map (·.2) = [assign tg X.env] := by rfl) : PS X (.Assign [tg] e pos) (tAsg te g) := by
  intro pins s σ H D I h
  refine wpAny_Assign_stores (thn (he pins s σ H _ I h) fun v s1 ⟨x, H1, I1, r1, q1⟩ => ?_) hs hw
  rw [h1]
  exact thn (hg pins s1 σ H1 x v _ I1 r1 q1) fun _ s2 q => q
/-- name = value -/
theorem ps_set {i : Nat} {x : Str} {e : Expr} {te : TE} {pos' : Pos} (hN : X.N.Nodup) (hi : X.N[i]? = some x) (hx : Loc X.env.scope x) (he : PE X e te) (hs : swapsWith e (some (.Name x pos')) pos.line X.env = pure false := by rfl) (hf : X.fn x = true ∨ X.env.scope.names.lookup x = some .local := by first | exact .inl rfl | exact .inr rfl | assumption) :
    PS X (.Assign [.Name x pos'] e pos) (tAsg te (gName i)) := by
  intro pins s σ H D I h
  refine wpAny_Assign_Name (thn (he pins s σ H _ I h) fun v s1 ⟨y, H1, I1, r1, q1⟩ => ?_) hs
  exact store_ok I1 hN hi hx r1 (fun s2 I2 => ⟨_, H1, I2, q1⟩) hf
end

/-! ### while -/
section
variable {X : Cx} {pos : Pos}
end

/-! ### what a loop or a comprehension walks -/
/-- at turn i: it yields x (the heap may grow), or it stops -/
structure It where
  go : Nat → Hp → Prop
  yld : Nat → Hp → V → Hp → Prop
  stop : Nat → Hp → Prop
/-- the iterator's own objects may turn: they are not the frame's, not pinned, younger than the entry (or a comprehension's own) -/
def FpOk (X : Cx) (pins : List (Addr × Obj)) (H : Hp) (b : Addr) : Prop :=
  H b = none ∧ b ≠ X.env.locals ∧ b ∉ X.fs ∧ (b ∈ X.ex ∨ X.s₀.heap.objs.size ≤ b) ∧ (∀ x c, X.env.cells.lookup x = some c → c ≠ b) ∧ ∀ p ∈ X.pn ++ pins, p.1 ≠ b
theorem Inv.fpOk {X : Cx} {pins : List (Addr × Obj)} {σ : St} {H H' : Hp} {s : Shared} {b : Addr} (I : Inv X pins σ H s) (hb : s.heap.objs.size ≤ b) (hn : H' b = none) : FpOk X pins H' b := by
  refine ⟨hn, Nat.ne_of_gt (Nat.lt_of_lt_of_le I.lt hb), I.nofs hb, .inr (Nat.le_trans I.sz hb), fun x c e z => ?_, fun p hp z => ?_⟩
  · obtain ⟨v, q⟩ := I.cell x c e
    exact absurd (Nat.lt_of_lt_of_le q.lt (by rw [z]; exact hb)) (Nat.lt_irrefl _)
  · exact absurd (Nat.lt_of_lt_of_le (Heap.lt_size (I.pin p hp).1) (by rw [z]; exact hb)) (Nat.lt_irrefl _)
structure Turn (P : Program) (w : World) (K : PySem.W.Frag) (tg : Expr) (J : It) (fp : List Addr) (it : Addr) (tn : Nat → Heap → Prop) : Prop where
  mem : it ∈ fp
  obj : ∀ i h, tn i h → ∀ b ∈ fp, ∃ o, h.get? b = some o ∧ ∀ v, o.data ≠ .cell v
  keep : ∀ i h h', tn i h → (∀ b ∈ fp, ∀ o, h.get? b = some o → h'.get? b = some o) → tn i h'
  item : ∀ (X : Cx), X.prog = P → X.w = w → X.K = K → X.calm = true → ∀ (i : Nat) (pins : List (Addr × Obj)) (s : Shared) (σ : St) (H : Hp) (E : Value → Shared → Prop), Inv X pins σ H s → (∀ b ∈ fp, FpOk X pins H b) → tn i s.heap → J.go i H →
    wpAny (model P w) X.A (pyNext (.ref it)) (fun r s1 => ∃ u, r = some u ∧
      wpAny (model P w) X.A (letOwnedTupleGo tg (.ref it) u) (fun _ s2 => ∃ x H', Inv X pins σ H' s2 ∧ RelV x u ∧ J.yld i H x H' ∧ tn (i + 1) s2.heap ∧ ∀ b ∈ fp, H' b = none) E s1) E s
  done : ∀ (X : Cx), X.prog = P → X.w = w → X.K = K → X.calm = true → ∀ (i : Nat) (pins : List (Addr × Obj)) (s : Shared) (σ : St) (H : Hp) (E : Value → Shared → Prop), Inv X pins σ H s → (∀ b ∈ fp, FpOk X pins H b) → tn i s.heap → J.stop i H →
    wpAny (model P w) X.A (pyNext (.ref it)) (fun r s1 => r = none ∧ Inv X pins σ H s1) E s
  self : ∀ (A : Around) (i : Nat) (s : Shared) (Q : Value → Shared → Prop) (E : Value → Shared → Prop), tn i s.heap → Q (.ref it) s → wpAny (model P w) A (pyIter (.ref it)) Q E s
abbrev TI := St → Hp → (It → Hp → Prop) → Prop
/-- an iterator has come -/
def PIE (X : Cx) (pins : List (Addr × Obj)) (σ : St) (tg : Expr) (R : It → Hp → Prop) (itv : Value) (s2 : Shared) : Prop :=
  ∃ (it : Addr) (fp : List Addr) (tn : Nat → Heap → Prop) (J : It) (H' : Hp), itv = .ref it ∧ Inv X pins σ H' s2 ∧ Turn X.prog X.w X.K tg J fp it tn ∧ tn 0 s2.heap ∧ (∀ b ∈ fp, FpOk X pins H' b) ∧ R J H'
def PI (X : Cx) (tg iter : Expr) (wi : TI) : Prop :=
  ∀ (pins : List (Addr × Obj)) (s : Shared) (σ : St) (H : Hp) (R : It → Hp → Prop), Inv X pins σ H s → wi σ H R →
    wpAny (model X.prog X.w) X.A (eval iter X.env) (fun v s1 => wpAny (model X.prog X.w) X.A (pyIter v) (PIE X pins σ tg R) X.xe s1) X.xe s

/-- the step ahead of the store is nothing for an iterator that keeps no tuple -/
theorem go_of {M : Model} {A : Around} {E : Value → Shared → Prop} {s : Shared} {tg : Expr} {it : Addr} {u : Value} {o : Obj} {n : String} {vs : Array Value} {Q : Unit → Shared → Prop} (ho : s.heap.get? it = some o) (hc : o.cls = .type n) (hd : o.data = .fields vs)
    (hn : ["enumerate", "zip", "dict_itemiterator", "dict_reverseitemiterator", "odict_iterator", "itertools.zip_longest", "itertools.pairwise"].contains n = false) (hQ : Q () s) : wpAny M A (letOwnedTupleGo tg (.ref it) u) Q E s := by
  unfold letOwnedTupleGo
  cases tg <;> first
    | exact wpAny_pure hQ
    | (cases u <;> first
        | exact wpAny_pure hQ
        | (refine wpAny_bind (wpAny_load ho ?_)
           rw [hc, hd]
           show wpAny M A (if (["enumerate", "zip", "dict_itemiterator", "dict_reverseitemiterator", "odict_iterator", "itertools.zip_longest", "itertools.pairwise"].contains n && vs[0]? == some (rawInt _)) = true then _ else _) Q E s
           rw [if_neg (by intro h; rw [hn, Bool.false_and] at h; cases h)]
           exact wpAny_pure hQ))

/-- the list at a, as it stands at each turn (a loop may append to it) -/
def Itl (K : PySem.W.Frag) (a : Addr) : It :=
  ⟨fun i H => ∃ xs x, SqL K H a xs ∧ xs[i]? = some x, fun i H x H' => H' = H ∧ ∀ xs, SqL K H a xs → xs[i]? = some x, fun i H => ∃ xs, SqL K H a xs ∧ xs.length ≤ i⟩
/-- lo, lo + 1, .. (n of them) -/
def Itr (lo : Int) (n : Nat) : It := ⟨fun i _ => i < n, fun i H x H' => H' = H ∧ x = .int (lo + i), fun i _ => n ≤ i⟩
theorem turn_list {P : Program} {w : World} {K : PySem.W.Frag} {tg : Expr} (a it : Addr) : Turn P w K tg (Itl K a) [it] it (fun i h => h.IsListIter it a i) where
  mem := by simp
  obj := fun i h st b hb => by
    have e : b = it := by simpa using hb
    subst e
    obtain ⟨o, e, c, d⟩ := st
    exact ⟨o, e, fun v z => by rw [d] at z; cases z⟩
  keep := fun i h h' st k => st.at fun o e => k it (by simp) o e
  item := by
    intro X hP hw hK hc i pins s σ H E I hf st hg
    subst hP hw hK
    obtain ⟨xs, x, hq, hx⟩ := hg
    obtain ⟨its, rv, p, hz⟩ := I.list hq
    obtain ⟨u, hu, ru⟩ := rv.get hx
    obtain ⟨f0, f1, f2, f3, f4, f5⟩ := hf it (by simp)
    refine wpAny_pyNext_list_item st p.isList (x := u) (by simpa using hu) fun h' st' sb => ?_
    have I1 : Inv X pins σ H { s with heap := h' } := I.turned (t' := s.toks) (fun b o hb e => (sb.2 b hb).trans e) f0 f1 f3 f4 f5
    obtain ⟨o, e, c, d⟩ := id st'
    exact ⟨u, rfl, go_of (s := { s with heap := h' }) e c d (by decide) ⟨x, H, I1, ru, ⟨rfl, fun ys hy => by rw [I.list_inj hy hq]; exact hx⟩, st', fun b hb => (hf b hb).1⟩⟩
  done := by
    intro X hP hw hK hc i pins s σ H E I hf st hg
    subst hP hw hK
    obtain ⟨xs, hq, hx⟩ := hg
    obtain ⟨its, rv, p, hz⟩ := I.list hq
    obtain ⟨f0, f1, f2, f3, f4, f5⟩ := hf it (by simp)
    have hl := rv.length
    exact wpAny_pyNext_list_end (I.ok.hd hc) st p.isList (by simp; omega) fun h' eb => ⟨rfl, I.turned (t' := s.toks) (fun b o hb e => eb b o hb e) f0 f1 f3 f4 f5⟩
  self := fun _ _ _ _ _ st h => wpAny_pyIter_listiter st h
theorem turn_range {P : Program} {w : World} {K : PySem.W.Frag} {tg : Expr} (it : Addr) (lo : Int) (n : Nat) : Turn P w K tg (Itr lo n) [it] it (fun i h => IsRangeIter h it (lo + (i : Nat) * 1) ((n : Int) - (i : Nat)) 1) where
  mem := by simp
  obj := fun i h st b hb => by
    have e : b = it := by simpa using hb
    subst e
    exact ⟨_, st, fun v z => by
      have z' : Data.fields _ = Data.cell v := z
      cases z'⟩
  keep := fun i h h' st k => k it (by simp) _ st
  item := by
    intro X hP hw hK hc i pins s σ H E I hf st hg
    subst hP hw hK
    obtain ⟨f0, f1, f2, f3, f4, f5⟩ := hf it (by simp)
    have W := Walks.range (prog := X.prog) (w := X.w) (I.ok.hd hc) it lo 1 n
    refine W.item i s _ _ hg st fun v h' tk hv st' kk => ?_
    obtain ⟨t, rfl⟩ := hv
    have I1 : Inv X pins σ H { s with heap := h', toks := tk } := I.turned (fun b o hb e => kk b o (by simpa using hb) e) f0 f1 f3 f4 f5
    refine ⟨_, rfl, go_of (s := { s with heap := h', toks := tk }) (n := "range_iterator") st' rfl rfl (by decide) ⟨.int (lo + i), H, I1, ⟨t, ?_⟩, ⟨rfl, rfl⟩, st', fun b hb => (hf b hb).1⟩⟩
    rw [Int.mul_one]
  done := by
    intro X hP hw hK hc i pins s σ H E I hf st hg
    subst hP hw hK
    obtain ⟨f0, f1, f2, f3, f4, f5⟩ := hf it (by simp)
    exact wpAny_pyNext_range_end (I.ok.hd hc) st (by have : n ≤ i := hg; omega) fun h' eb => ⟨rfl, I.turned (t' := s.toks) (fun b o hb e => eb b o hb e) f0 f1 f3 f4 f5⟩
  self := fun _ _ _ _ _ st h => wpAny_pyIter_rangeiter st h
end L2

namespace L2
open PySem PySem.Spec PyProof.Rows
section
variable {X : Cx} {tg : Expr}
def iList (K : PySem.W.Frag) (tl : TE) : TI := fun σ H R => tl σ H fun x H1 => ∃ a, x = .ref a ∧ (∃ xs, SqL K H1 a xs) ∧ R (Itl K a) H1
theorem pi_list {l : Expr} {tl : TE} (hl : PE X l tl) : PI X tg l (iList X.K tl) := by
  intro pins s σ H R I h
  refine thn (hl pins s σ H _ I h) fun v s1 ⟨x, H1, I1, r1, q1⟩ => ?_
  obtain ⟨a, e, ⟨xs, hq⟩, q⟩ := q1
  subst e
  cases r1
  obtain ⟨its, rv, p, hz⟩ := I1.list hq
  refine wpAny_pyIter_list p.isList ?_
  refine ⟨s1.heap.objs.size, [s1.heap.objs.size], _, _, H1, rfl, I1.kept (t' := s1.toks) fun b o e => Heap.get?_push_of_some _ e, turn_list a _, ⟨_, Heap.get?_push_size _ rfl, rfl, rfl⟩, fun b hb => ?_, q⟩
  have e : b = s1.heap.objs.size := by simpa using hb
  subst e
  exact I1.fpOk (Nat.le_refl _) (I1.hok.fresh (Nat.le_refl _))
/-- a range object just made, walked -/
theorem range_it {pins : List (Addr × Obj)} {σ : St} {H : Hp} {s : Shared} {R : It → Hp → Prop} {E : Value → Shared → Prop} {lo hi : Int} {t u v : Tok} {tk : Nat} (I : Inv X pins σ H s) (h1 : -(2 ^ 62) ≤ lo) (h2 : lo < 2 ^ 62) (h3 : -(2 ^ 62) ≤ hi) (h4 : hi < 2 ^ 62)
    (q : R (Itr lo (hi - lo).toNat) H) : wpAny (model X.prog X.w) X.A (pyIter (.ref s.heap.objs.size)) (PIE X pins σ tg R) E { s with heap := s.heap.push { cls := .type "range", data := .fields #[.int lo t, .int hi u, .int 1 v] }, toks := tk } := by
  refine wpAny_pyIter_range (IsRange.new ..) (small_one h1 h2 h3 h4) ?_
  have I1 : Inv X pins σ H { s with heap := s.heap.push { cls := .type "range", data := .fields #[.int lo t, .int hi u, .int 1 v] }, toks := tk } := I.kept fun b o e => Heap.get?_push_of_some _ e
  refine ⟨(s.heap.push { cls := .type "range", data := .fields #[.int lo t, .int hi u, .int 1 v] }).objs.size, [(s.heap.push { cls := .type "range", data := .fields #[.int lo t, .int hi u, .int 1 v] }).objs.size], _, _, H, rfl,
    I1.kept (t' := tk) fun b o e => Heap.get?_push_of_some _ e, turn_range _ lo (hi - lo).toNat, ?_, fun b hb => ?_, q⟩
  · have e1 : lo + ((0 : Nat) : Int) * 1 = lo := by simp
    have e2 : (((hi - lo).toNat : Nat) : Int) - ((0 : Nat) : Int) = Builtin.Range.rangeSize lo hi 1 := by rw [rangeSize_one]; split <;> omega
    show IsRangeIter _ _ (lo + ((0 : Nat) : Int) * 1) ((((hi - lo).toNat : Nat) : Int) - ((0 : Nat) : Int)) 1
    rw [e1, e2]
    exact Heap.get?_push_size _ rfl
  · have e : b = (s.heap.push { cls := .type "range", data := .fields #[.int lo t, .int hi u, .int 1 v] }).objs.size := by simpa using hb
    subst e
    exact I1.fpOk (Nat.le_refl _) (I1.hok.fresh (Nat.le_refl _))
def iRng1 (ta : TA) : TI := fun σ H R => ta σ H fun vs H1 => ∃ j : Int, vs = [.int j] ∧ -(2 ^ 62) ≤ j ∧ j < 2 ^ 62 ∧ R (Itr 0 j.toNat) H1
theorem pi_range1 {a : Expr} {ta : TA} {p pos : Pos} (hg : Gl X "range") (hm : X.mg "range" = none) (ha : PA X [a] ta) (hs : starEach [a] X.env = [(false, eval a X.env)] := by rfl) : PI X tg (.Call (.Name "range" p) [a] [] pos) (iRng1 ta) := by
  intro pins s σ H R I h
  refine Call_ (ld_blt I hg hm boot_range (PyProof.Rows.callWith_type1 (thn (ha pos pins s σ H _ I h) fun us s1 ⟨vs, H1, I1, r1, q1⟩ => ?_) hs rfl))
  obtain ⟨j, e, q1, q2, q⟩ := q1
  subst e
  cases r1 with
  | cons r rr =>
    cases rr
    obtain ⟨t, rfl⟩ := r
    exact call_range_1 (range_it I1 (by omega) (by omega) q1 q2 (by simpa using q))
/-! ### for -/
/-- W: the invariant by the turn and a measure; N: what the body is to reach -/
def tFor (wi : TI) (g : TG) (tb : TS) : TS := fun D σ H => wi σ H fun J H1 => ∃ W : Nat → Nat → St → Hp → Prop, (∃ m, W 0 m σ H1) ∧ ∀ i m σ H, W i m σ H →
  (J.stop i H ∧ D.nx σ H) ∨ (J.go i H ∧ ∃ N : St → Hp → Prop, (∀ σ' H', N σ' H' → ∃ m', m' < m ∧ W (i + 1) m' σ' H') ∧ ∀ x H', J.yld i H x H' → g x σ H' fun σ2 H2 => tb { D with nx := N, ct := N, bk := D.nx } σ2 H2)
/-- the records at fp as they stand -/
def pinsAt (fp : List Addr) (h : Heap) : List (Addr × Obj) := fp.filterMap fun b => (h.get? b).map fun o => (b, o)
theorem mem_pinsAt {fp : List Addr} {h : Heap} {b : Addr} {o : Obj} (hb : b ∈ fp) (e : h.get? b = some o) : (b, o) ∈ pinsAt fp h := List.mem_filterMap.mpr ⟨b, hb, by rw [e]; rfl⟩
theorem of_pinsAt {fp : List Addr} {h : Heap} {p : Addr × Obj} (hp : p ∈ pinsAt fp h) : p.1 ∈ fp ∧ h.get? p.1 = some p.2 := by
  obtain ⟨b, hb, e⟩ := List.mem_filterMap.mp hp
  cases q : h.get? b with
  | none => rw [q] at e; cases e
  | some o =>
    rw [q] at e
    have e' : (b, o) = p := Option.some.inj e
    subst e'
    exact ⟨hb, q⟩
theorem Inv.pinned {pins : List (Addr × Obj)} {σ : St} {H : Hp} {s : Shared} {fp : List Addr} (I : Inv X pins σ H s) (hf : ∀ b ∈ fp, FpOk X pins H b) (ho : ∀ b ∈ fp, ∃ o, s.heap.get? b = some o ∧ ∀ v, o.data ≠ .cell v) : Inv X (pins ++ pinsAt fp s.heap) σ H s :=
  I.pins_of fun p hp => (List.mem_append.mp hp).elim (fun z => I.pin p (List.mem_append_right _ z)) fun z => by
    obtain ⟨hb, e⟩ := of_pinsAt z
    obtain ⟨f0, f1, f2, _⟩ := hf p.1 hb
    obtain ⟨o, e', d⟩ := ho p.1 hb
    rw [e] at e'; cases e'
    exact ⟨e, f0, f1, f2, d⟩
theorem Inv.unpinned {pins pl : List (Addr × Obj)} {σ : St} {H : Hp} {s : Shared} (I : Inv X (pins ++ pl) σ H s) : Inv X pins σ H s := I.pins_of fun p hp => I.pin p (List.mem_append_right _ (List.mem_append_left _ hp))
theorem ps_for {iter : Expr} {body : List Stmt} {wi : TI} {g : TG} {tb : TS} {pos : Pos} (hp : PassesOwn (model X.prog X.w) X.A X.env X.xe) (hc : X.calm = true) (hi : PI X tg iter wi) (hg : PG X tg g) (hb : PSs X body tb)
    (hs : ∀ x, foldedSetIterable iter X.env x = pure x := by intro _; rfl) : PS X (.For tg iter body [] pos) (tFor wi g tb) := by
  intro pins s σ H D I h
  refine wpAny_For (thn (hi pins s σ H _ I h) fun v s1 h1 => thn h1 fun itv s2 h2 => ?_) hs
  obtain ⟨it, fp, tn, J, H2, e, I2, T, st2, f2, W, ⟨m0, w0⟩, turn⟩ := h2
  subst e
  -- what stays true of the iterator's objects through the loop
  have stat : ∀ {H' : Hp}, (∀ b ∈ fp, H' b = none) → ∀ b ∈ fp, FpOk X pins H' b := fun hn b hb => ⟨hn b hb, (f2 b hb).2⟩
  refine codeAny_forLoop_any (fun n s' => ∃ i σ' H', Inv X pins σ' H' s' ∧ tn i s'.heap ∧ (∀ b ∈ fp, H' b = none) ∧ W i n σ' H') ?_ m0 ⟨0, σ, H2, I2, st2, fun b hb => (f2 b hb).1, w0⟩
  rintro n s3 ⟨i, σ3, H3, I3, st3, fr3, w3⟩
  rcases turn i n σ3 H3 w3 with ⟨stop, qn⟩ | ⟨go, N, hN, step⟩
  · refine wpAny_passesOwn hp (thn (T.done X rfl rfl rfl hc i pins s3 σ3 H3 X.xe I3 (stat fr3) st3 stop) fun r s4 ⟨hr, I4⟩ => ?_)
    subst hr
    exact wpAny_execs_nil ⟨σ3, H3, I4, qn⟩
  · refine wpAny_passesOwn hp (thn (T.item X rfl rfl rfl hc i pins s3 σ3 H3 X.xe I3 (stat fr3) st3 go) fun r s4 ⟨u, hr, h4⟩ => ?_)
    subst hr
    refine wpAny_passesOwn hp (thn h4 fun _ s5 ⟨x, H5, I5, r5, y5, st5, fr5⟩ => ?_)
    have I5' := I5.pinned (stat fr5) (T.obj _ _ st5)
    refine wpAny_passesOwn hp (thn (hg _ s5 σ3 H5 x u _ I5' r5 (step x H5 y5)) fun _ s6 ⟨σ6, H6, I6, q6⟩ => ?_)
    refine wpAny_passesOwn hp (thn (hb _ s6 σ6 H6 _ I6 q6) fun f s7 q7 => ?_)
    have again : ∀ {σ7 : St} {H7 : Hp}, Inv X (pins ++ pinsAt fp s5.heap) σ7 H7 s7 → N σ7 H7 → ∃ m, m < n ∧ ∃ i σ' H', Inv X pins σ' H' s7 ∧ tn i s7.heap ∧ (∀ b ∈ fp, H' b = none) ∧ W i m σ' H' := fun {σ7 H7} I7 n7 => by
      obtain ⟨m', hm, w7⟩ := hN σ7 H7 n7
      refine ⟨m', hm, i + 1, σ7, H7, I7.unpinned, T.keep _ _ _ st5 fun b hb o e => (I7.pin (b, o) (List.mem_append_right _ (List.mem_append_right _ (mem_pinsAt hb e)))).1, fun b hb => ?_, w7⟩
      obtain ⟨o, e, d⟩ := T.obj _ _ st5 b hb
      exact (I7.pin (b, o) (List.mem_append_right _ (List.mem_append_right _ (mem_pinsAt hb e)))).2.1
    cases f with
    | next => obtain ⟨σ7, H7, I7, n7⟩ := q7; exact again I7 n7
    | cont => obtain ⟨σ7, H7, I7, n7⟩ := q7; exact again I7 n7
    | brk => obtain ⟨σ7, H7, I7, q7⟩ := q7; exact ⟨σ7, H7, I7.unpinned, q7⟩
    | ret v => obtain ⟨x7, σ7, H7, I7, r7, q7⟩ := q7; exact ⟨x7, σ7, H7, I7.unpinned, r7, q7⟩
end

/-! ### the forms one uses -/
/-- over a list that the body leaves as it is -/
theorem for_list {K : PySem.W.Frag} {a : Addr} {xs : List V} {g : TG} {tb : TS} {D : Ends} {σ : St} {H : Hp} (Pv : Nat → St → Hp → Prop) (h0 : Pv 0 σ H) (hl : ∀ i σ H, i ≤ xs.length → Pv i σ H → SqL K H a xs)
    (hs : ∀ i x σ H, xs[i]? = some x → Pv i σ H → g x σ H fun σ2 H2 => tb { D with nx := Pv (i + 1), ct := Pv (i + 1), bk := D.nx } σ2 H2) (hd : ∀ σ H, Pv xs.length σ H → D.nx σ H) :
    ∃ W : Nat → Nat → St → Hp → Prop, (∃ m, W 0 m σ H) ∧ ∀ i m σ H, W i m σ H →
      ((Itl K a).stop i H ∧ D.nx σ H) ∨ ((Itl K a).go i H ∧ ∃ N : St → Hp → Prop, (∀ σ' H', N σ' H' → ∃ m', m' < m ∧ W (i + 1) m' σ' H') ∧ ∀ x H', (Itl K a).yld i H x H' → g x σ H' fun σ2 H2 => tb { D with nx := N, ct := N, bk := D.nx } σ2 H2) := by
  refine ⟨fun i m σ H => m = xs.length - i ∧ i ≤ xs.length ∧ Pv i σ H, ⟨xs.length, by simp, Nat.zero_le _, h0⟩, ?_⟩
  rintro i m σ H ⟨rfl, hi, p⟩
  have q := hl i σ H hi p
  by_cases hlt : i < xs.length
  · refine .inr ⟨⟨xs, xs[i], q, by simp [hlt]⟩, Pv (i + 1), fun σ' H' p' => ⟨xs.length - (i + 1), by omega, rfl, hlt, p'⟩, fun x H' y => ?_⟩
    obtain ⟨e, y⟩ := y
    subst e
    exact hs i x σ _ (y xs q) p
  · have e : i = xs.length := by omega
    subst e
    exact .inl ⟨⟨xs, q, Nat.le_refl _⟩, hd σ H p⟩
theorem for_range {lo : Int} {n : Nat} {g : TG} {tb : TS} {D : Ends} {σ : St} {H : Hp} (Pv : Nat → St → Hp → Prop) (h0 : Pv 0 σ H)
    (hs : ∀ i σ H, i < n → Pv i σ H → g (.int (lo + i)) σ H fun σ2 H2 => tb { D with nx := Pv (i + 1), ct := Pv (i + 1), bk := D.nx } σ2 H2) (hd : ∀ σ H, Pv n σ H → D.nx σ H) :
    ∃ W : Nat → Nat → St → Hp → Prop, (∃ m, W 0 m σ H) ∧ ∀ i m σ H, W i m σ H →
      ((Itr lo n).stop i H ∧ D.nx σ H) ∨ ((Itr lo n).go i H ∧ ∃ N : St → Hp → Prop, (∀ σ' H', N σ' H' → ∃ m', m' < m ∧ W (i + 1) m' σ' H') ∧ ∀ x H', (Itr lo n).yld i H x H' → g x σ H' fun σ2 H2 => tb { D with nx := N, ct := N, bk := D.nx } σ2 H2) := by
  refine ⟨fun i m σ H => m = n - i ∧ i ≤ n ∧ Pv i σ H, ⟨n, by simp, Nat.zero_le _, h0⟩, ?_⟩
  rintro i m σ H ⟨rfl, hi, p⟩
  by_cases hlt : i < n
  · refine .inr ⟨hlt, Pv (i + 1), fun σ' H' p' => ⟨n - (i + 1), by omega, rfl, hlt, p'⟩, fun x H' y => ?_⟩
    obtain ⟨e, y⟩ := y
    subst e y
    exact hs i σ _ hlt p
  · have e : i = n := by omega
    subst e
    exact .inl ⟨Nat.le_refl _, hd σ H p⟩
end L2

namespace L2
open PySem PySem.Spec PyProof.Rows

abbrev R2 := V → V → Hp → VK → Prop
/-- a two-place operation on values: f is binaryOp op, inplaceOp op or compareOp op -/
def OpR (X : Cx) (f : Value → Value → Sem Value) (r : R2) : Prop :=
  ∀ (pins : List (Addr × Obj)) (s : Shared) (σ : St) (H : Hp) (x y : V) (v u : Value) (Q : VK), Inv X pins σ H s → RelV x v → RelV y u → r x y H Q →
    wpAny (model X.prog X.w) X.A (f v u) (EP X pins σ Q) X.xe s
/-- a one-place operation -/
def UnR (X : Cx) (f : Value → Sem Value) (r : V → Hp → VK → Prop) : Prop :=
  ∀ (pins : List (Addr × Obj)) (s : Shared) (σ : St) (H : Hp) (x : V) (v : Value) (Q : VK), Inv X pins σ H s → RelV x v → r x H Q →
    wpAny (model X.prog X.w) X.A (f v) (EP X pins σ Q) X.xe s
/-- a call of a value that is known (a builtin, a type) with values -/
def CallR (X : Cx) (f : Value) (r : List V → Hp → VK → Prop) : Prop :=
  ∀ (pins : List (Addr × Obj)) (s : Shared) (σ : St) (H : Hp) (xs : List V) (us : List Value) (Q : VK), Inv X pins σ H s → Vals xs us → r xs H Q →
    wpAny (model X.prog X.w) X.A (call f us) (EP X pins σ Q) X.xe s
def tOp (r : R2) (ta tb : TE) : TE := fun σ H Q => ta σ H fun x H1 => tb σ H1 fun y H2 => r x y H2 Q
def tUn (r : V → Hp → VK → Prop) (ta : TE) : TE := fun σ H Q => ta σ H fun x H1 => r x H1 Q
/-- ints in, under C, and a value out -/
def rI (C : Int → Int → Prop) (g : Int → Int → V) : R2 := fun x y H Q => ∃ i j, x = .int i ∧ y = .int j ∧ C i j ∧ Q (g i j) H
def rI0 (g : Int → Int → V) : R2 := fun x y H Q => ∃ i j, x = .int i ∧ y = .int j ∧ Q (g i j) H
def rU (g : Int → V) : V → Hp → VK → Prop := fun x H Q => ∃ i, x = .int i ∧ Q (g i) H

section
variable {X : Cx} {a b c : Expr} {ta tb tc : TE} {pos : Pos}

theorem binT (ha : PE X a ta) (hb : PE X b tb) {pins : List (Addr × Obj)} {s : Shared} {σ : St} {H : Hp} {R : V → V → Hp → Prop} (I : Inv X pins σ H s)
    (h : ta σ H fun x H1 => tb σ H1 fun y H2 => R x y H2) {Q : Value → Shared → Prop} {f : Value → Value → Sem Value}
    (hf : ∀ v u s2 x y H2, Inv X pins σ H2 s2 → RelV x v → RelV y u → R x y H2 → wpAny (model X.prog X.w) X.A (f v u) Q X.xe s2) :
    wpAny (model X.prog X.w) X.A (eval a X.env) (fun v s₁ => wpAny (model X.prog X.w) X.A (eval b X.env) (fun u s₂ => wpAny (model X.prog X.w) X.A (f v u) Q X.xe s₂) X.xe s₁) X.xe s := by
  refine thn (ha pins s σ H _ I h) fun v s1 ⟨x, H1, I1, r1, q1⟩ => ?_
  refine thn (hb pins s1 σ H1 _ I1 q1) fun u s2 ⟨y, H2, I2, r2, q2⟩ => ?_
  exact hf v u s2 x y H2 I2 r1 r2 q2

theorem pe_op {op : Operator} {r : R2} (ho : OpR X (binaryOp op) r) (ha : PE X a ta) (hb : PE X b tb) : PE X (.BinOp a op b pos) (tOp r ta tb) := by
  intro pins s σ H Q I h
  exact wpAny_BinOp (binT ha hb I h fun v u s2 x y H2 I2 rx ry q => ho pins s2 σ H2 x y v u Q I2 rx ry q)
theorem pe_un {op : UnaryOp} {r : V → Hp → VK → Prop} (ho : UnR X (unaryOp op) r) (ha : PE X a ta) : PE X (.UnaryOp op a pos) (tUn r ta) := by
  intro pins s σ H Q I h
  exact UnaryOp_ (thn (ha pins s σ H _ I h) fun v s1 ⟨x, H1, I1, r1, q1⟩ => ho pins s1 σ H1 x v Q I1 r1 q1)
/-! ### ints -/
theorem opI {f : Value → Value → Sem Value} {C : Int → Int → Prop} {g : Int → Int → Int}
    (rule : ∀ (i j : Int) (t u : Tok) (s : Shared) (Q : Value → Shared → Prop) (E : Value → Shared → Prop), C i j → Q (.int (g i j) s.toks) { s with toks := s.toks + 1 } → wpAny (model X.prog X.w) X.A (f (.int i t) (.int j u)) Q E s) :
    OpR X f (rI C fun i j => .int (g i j)) := by
  intro pins s σ H x y v u Q I rx ry h
  obtain ⟨i, j, rfl, rfl, hc, q⟩ := h
  obtain ⟨t, rfl⟩ := rx
  obtain ⟨t', rfl⟩ := ry
  exact rule i j t t' s _ _ hc ⟨.int (g i j), H, I.tok _, ⟨_, rfl⟩, q⟩
theorem opI0 {f : Value → Value → Sem Value} {g : Int → Int → Int}
    (rule : ∀ (i j : Int) (t u : Tok) (s : Shared) (Q : Value → Shared → Prop) (E : Value → Shared → Prop), Q (.int (g i j) s.toks) { s with toks := s.toks + 1 } → wpAny (model X.prog X.w) X.A (f (.int i t) (.int j u)) Q E s) :
    OpR X f (rI0 fun i j => .int (g i j)) := by
  intro pins s σ H x y v u Q I rx ry h
  obtain ⟨i, j, rfl, rfl, q⟩ := h
  obtain ⟨t, rfl⟩ := rx
  obtain ⟨t', rfl⟩ := ry
  exact rule i j t t' s _ _ ⟨.int (g i j), H, I.tok _, ⟨_, rfl⟩, q⟩
theorem opB0 {f : Value → Value → Sem Value} {g : Int → Int → Bool}
    (rule : ∀ (i j : Int) (t u : Tok) (s : Shared) (Q : Value → Shared → Prop) (E : Value → Shared → Prop), Q (.bool (g i j)) s → wpAny (model X.prog X.w) X.A (f (.int i t) (.int j u)) Q E s) :
    OpR X f (rI0 fun i j => .bl (g i j)) := by
  intro pins s σ H x y v u Q I rx ry h
  obtain ⟨i, j, rfl, rfl, q⟩ := h
  obtain ⟨t, rfl⟩ := rx
  obtain ⟨t', rfl⟩ := ry
  exact rule i j t t' s _ _ ⟨.bl (g i j), H, I, rfl, q⟩

def CDiv (i j : Int) : Prop := 0 < j ∧ j < 1073741824
def CPow (i j : Int) : Prop := 0 ≤ j ∧ j ≤ 1000000 ∧ i.natAbs < 2 ^ 64
def CMul (i j : Int) : Prop := (-(2 ^ 64) < i ∧ i < 2 ^ 64) ∨ (-(2 ^ 64) < j ∧ j < 2 ^ 64)
theorem CMul.ok {i j : Int} (h : CMul i j) : IntMulOk i j := by
  rcases h with ⟨h1, h2⟩ | ⟨h1, h2⟩
  · exact .of_left (intBits_le_64 h1 h2)
  · exact .of_right (intBits_le_64 h1 h2)
theorem op_add : OpR X (binaryOp .Add) (rI0 fun i j => .int (i + j)) := opI0 fun _ _ _ _ _ _ _ q => add_int q
theorem op_sub : OpR X (binaryOp .Sub) (rI0 fun i j => .int (i - j)) := opI0 fun _ _ _ _ _ _ _ q => sub_int q
theorem op_mul : OpR X (binaryOp .Mult) (rI CMul fun i j => .int (i * j)) := opI fun _ _ _ _ _ _ _ hc q => mul_int q hc.ok
/-- // by a positive divisor -/
theorem op_fdiv : OpR X (binaryOp .FloorDiv) (rI CDiv fun i j => .int (i / j)) := opI fun i j _ _ _ _ _ hc q => by
  have h1 : (0 : Int) < j := hc.1
  have h2 : j < 1073741824 := hc.2
  exact floordiv_int (by omega) (by rw [Int.fdiv_eq_ediv_of_nonneg i (by omega)]; exact q) (.inl (PyProof.noPylong_small (by omega)))
/-- % by a positive divisor of any size -/
theorem op_mod : OpR X (binaryOp .Mod) (rI (fun _ j => 0 < j) fun i j => .int (i % j)) := opI fun i j _ _ _ _ _ hc q => by
  have h1 : (0 : Int) < j := hc
  exact mod_int' (by omega) (by rw [Int.fmod_eq_emod_of_nonneg i (by omega)]; exact q)
theorem op_pow : OpR X (binaryOp .Pow) (rI CPow fun i j => .int (i ^ j.toNat)) := opI fun _ _ _ _ _ _ _ hc q => pow_int_small hc.1 hc.2.1 hc.2.2 q
theorem unI {f : Value → Sem Value} {g : Int → Int}
    (rule : ∀ (i : Int) (t : Tok) (s : Shared) (Q : Value → Shared → Prop) (E : Value → Shared → Prop), Q (.int (g i) s.toks) { s with toks := s.toks + 1 } → wpAny (model X.prog X.w) X.A (f (.int i t)) Q E s) :
    UnR X f (rU fun i => .int (g i)) := by
  intro pins s σ H x v Q I rx h
  obtain ⟨i, rfl, q⟩ := h
  obtain ⟨t, rfl⟩ := rx
  exact rule i t s _ _ ⟨.int (g i), H, I.tok _, ⟨_, rfl⟩, q⟩
theorem un_neg : UnR X (unaryOp .USub) (rU fun i => .int (-i)) := unI fun _ _ _ _ _ q => neg_int q
/-! ### bools among ints: n += (a < b) -/
end

/-! ### comparisons -/
/-- the scalars that == tells apart as data does -/
def scal : V → V → Bool
  | .non, .non => true | .non, .int _ => true | .int _, .non => true | .non, .bl _ => true | .bl _, .non => true | .non, .str _ => true | .str _, .non => true
  | .int _, .int _ => true | .bl _, .bl _ => true | .str _, .str _ => true | .byt _, .byt _ => true
  | .int _, .str _ => true | .str _, .int _ => true | .bl _, .str _ => true | .str _, .bl _ => true
  | _, _ => false
def rEq : R2 := fun x y H Q => scal x y = true ∧ Q (.bl (decide (x = y))) H
def rNe : R2 := fun x y H Q => scal x y = true ∧ Q (.bl (!decide (x = y))) H

theorem dec_int {i j : Int} : decide (V.int i = V.int j) = (i == j) := by
  rw [Bool.eq_iff_iff]
  simp
theorem dec_bl {i j : Bool} : decide (V.bl i = V.bl j) = (i == j) := by
  rw [Bool.eq_iff_iff]
  simp
theorem dec_str {i j : Str} : decide (V.str i = V.str j) = (i == j) := by
  rw [Bool.eq_iff_iff]
  simp
theorem dec_byt {i j : Array UInt8} : decide (V.byt i = V.byt j) = (i.toList == j.toList) := by
  rw [Bool.eq_iff_iff]
  cases i
  cases j
  simp

section
variable {X : Cx} {a b c : Expr} {ta tb tc : TE} {pos : Pos}
theorem fin_bl {pins : List (Addr × Obj)} {σ : St} {H : Hp} {s : Shared} {Q : VK} {k k' : Bool} (I : Inv X pins σ H s) (q : Q (.bl k) H) (e : k = k') : EP X pins σ Q (.bool k') s := by
  subst e
  exact ⟨.bl k, H, I, rfl, q⟩
theorem op_eq : OpR X (compareOp .Eq) rEq := by
  intro pins s σ H x y v u Q I rx ry h
  obtain ⟨hs, q⟩ := h
  cases x with
  | non =>
    cases rx
    cases y with
    | non => cases ry; exact PySem.EqNone.eq_none_none (fin_bl I q (by simp))
    | bl j => cases ry; exact PySem.EqNone.eq_none_bool (fin_bl I q (by simp))
    | int j => obtain ⟨t', rfl⟩ := ry; exact PySem.EqNone.eq_none_int (fin_bl I q (by simp))
    | str j => obtain ⟨t', rfl⟩ := ry; exact PySem.EqNone.eq_none_str (fin_bl I q (by simp))
    | _ => exact absurd (show false = true from hs) Bool.false_ne_true
  | bl i =>
    cases rx
    cases y with
    | non => cases ry; exact PySem.EqNone.eq_bool_none (fin_bl I q (by simp))
    | bl j => cases ry; exact eq_bool (fin_bl I q dec_bl)
    | str j => obtain ⟨t', rfl⟩ := ry; exact PySem.EqMixed.eq_bool_str (fin_bl I q (by simp))
    | _ => exact absurd (show false = true from hs) Bool.false_ne_true
  | int i =>
    obtain ⟨t, rfl⟩ := rx
    cases y with
    | non => cases ry; exact PySem.EqNone.eq_int_none (fin_bl I q (by simp))
    | int j => obtain ⟨t', rfl⟩ := ry; exact eq_int (fin_bl I q dec_int)
    | str j => obtain ⟨t', rfl⟩ := ry; exact PySem.EqMixed.eq_int_str (fin_bl I q (by simp))
    | _ => exact absurd (show false = true from hs) Bool.false_ne_true
  | str i =>
    obtain ⟨t, rfl⟩ := rx
    cases y with
    | non => cases ry; exact PySem.EqNone.eq_str_none (fin_bl I q (by simp))
    | bl j => cases ry; exact PySem.EqMixed.eq_str_bool (fin_bl I q (by simp))
    | int j => obtain ⟨t', rfl⟩ := ry; exact PySem.EqMixed.eq_str_int (fin_bl I q (by simp))
    | str j => obtain ⟨t', rfl⟩ := ry; exact eq_str (fin_bl I q dec_str)
    | _ => exact absurd (show false = true from hs) Bool.false_ne_true
  | byt i =>
    obtain ⟨t, rfl⟩ := rx
    cases y with
    | byt j => obtain ⟨t', rfl⟩ := ry; exact PySem.W.eq_bytes (fin_bl I q dec_byt)
    | _ => exact absurd (show false = true from hs) Bool.false_ne_true
  | _ => cases y <;> exact absurd (show false = true from hs) Bool.false_ne_true
theorem op_ne : OpR X (compareOp .NotEq) rNe := by
  intro pins s σ H x y v u Q I rx ry h
  obtain ⟨hs, q⟩ := h
  cases x with
  | non =>
    cases rx
    cases y with
    | non => cases ry; exact PySem.EqNone.ne_none_none (fin_bl I q (by simp))
    | bl j => cases ry; exact PySem.EqNone.ne_none_bool (fin_bl I q (by simp))
    | int j => obtain ⟨t', rfl⟩ := ry; exact PySem.EqNone.ne_none_int (fin_bl I q (by simp))
    | str j => obtain ⟨t', rfl⟩ := ry; exact PySem.EqNone.ne_none_str (fin_bl I q (by simp))
    | _ => exact absurd (show false = true from hs) Bool.false_ne_true
  | bl i =>
    cases rx
    cases y with
    | non => cases ry; exact PySem.EqNone.ne_bool_none (fin_bl I q (by simp))
    | bl j => cases ry; exact ne_bool (fin_bl I q (congrArg not dec_bl))
    | str j => obtain ⟨t', rfl⟩ := ry; exact PySem.EqMixed.ne_bool_str (fin_bl I q (by simp))
    | _ => exact absurd (show false = true from hs) Bool.false_ne_true
  | int i =>
    obtain ⟨t, rfl⟩ := rx
    cases y with
    | non => cases ry; exact PySem.EqNone.ne_int_none (fin_bl I q (by simp))
    | int j => obtain ⟨t', rfl⟩ := ry; exact ne_int (fin_bl I q (congrArg not dec_int))
    | str j => obtain ⟨t', rfl⟩ := ry; exact PySem.EqMixed.ne_int_str (fin_bl I q (by simp))
    | _ => exact absurd (show false = true from hs) Bool.false_ne_true
  | str i =>
    obtain ⟨t, rfl⟩ := rx
    cases y with
    | non => cases ry; exact PySem.EqNone.ne_str_none (fin_bl I q (by simp))
    | bl j => cases ry; exact PySem.EqMixed.ne_str_bool (fin_bl I q (by simp))
    | int j => obtain ⟨t', rfl⟩ := ry; exact PySem.EqMixed.ne_str_int (fin_bl I q (by simp))
    | str j => obtain ⟨t', rfl⟩ := ry; exact ne_str (fin_bl I q (congrArg not dec_str))
    | _ => exact absurd (show false = true from hs) Bool.false_ne_true
  | byt i =>
    obtain ⟨t, rfl⟩ := rx
    cases y with
    | byt j => obtain ⟨t', rfl⟩ := ry; exact PySem.W.ne_bytes (fin_bl I q (congrArg not dec_byt))
    | _ => exact absurd (show false = true from hs) Bool.false_ne_true
  | _ => cases y <;> exact absurd (show false = true from hs) Bool.false_ne_true

theorem op_lt : OpR X (compareOp .Lt) (rI0 fun i j => .bl (decide (i < j))) := opB0 fun _ _ _ _ _ _ _ q => lt_int q
theorem op_ge : OpR X (compareOp .GtE) (rI0 fun i j => .bl (decide (j ≤ i))) := opB0 fun _ _ _ _ _ _ _ q => ge_int q
/-- two rules for one operation: by cases -/
theorem OpR.or {f : Value → Value → Sem Value} {r r' : R2} (h : OpR X f r) (h' : OpR X f r') : OpR X f (fun x y H Q => r x y H Q ∨ r' x y H Q) := by
  intro pins s σ H x y v u Q I rx ry q
  rcases q with q | q
  · exact h pins s σ H x y v u Q I rx ry q
  · exact h' pins s σ H x y v u Q I rx ry q

theorem nomark (b : Expr) {op : CmpOp} (h : op ≠ .In := by decide) (h2 : op ≠ .NotIn := by decide) : behindInMarks op b = false := by
  have e1 : (op == CmpOp.In) = false := by cases op <;> first | rfl | exact absurd rfl h
  have e2 : (op == CmpOp.NotIn) = false := by cases op <;> first | rfl | exact absurd rfl h2
  cases b <;> simp [behindInMarks, e1, e2]
/-- a comparison as a value; hm: nomark b, or (for in, not in) by with_unfolding_all rfl -/
theorem pe_cmpR {op : CmpOp} {r : R2} (ho : OpR X (compareOp op) r) (ha : PE X a ta) (hb : PE X b tb) (hm : behindInMarks op b = false) : PE X (.Compare a [op] [b] pos) (tOp r ta tb) := by
  intro pins s σ H Q I h
  exact wpAny_Compare1 (binT ha hb I h fun v u s2 x y H2 I2 rx ry q => ho pins s2 σ H2 x y v u Q I2 rx ry q) hm
/-- a reading of a value as a test -/
def tTest (t : TE) : TT := fun σ H Q => t σ H fun x H' => ∃ k, x = .bl k ∧ Q k H'
theorem pt_cmpR {op : CmpOp} {r : R2} (ho : OpR X (compareOp op) r) (ha : PE X a ta) (hb : PE X b tb) (hm : behindInMarks op b = false) : PT X (.Compare a [op] [b] pos) (tTest (tOp r ta tb)) := by
  intro pins s σ H Q I h
  refine wpAny_isTrue_Compare1 (thn (ha pins s σ H _ I h) fun v s1 ⟨x, H1, I1, r1, q1⟩ => thn (hb pins s1 σ H1 _ I1 q1) fun u s2 ⟨y, H2, I2, r2, q2⟩ =>
    thn (ho pins s2 σ H2 x y v u _ I2 r1 r2 q2) fun c s3 ⟨z, H3, I3, r3, k, e, q3⟩ => ?_) hm
  subst e
  cases r3
  exact wpAny_truthy_bool ⟨H3, I3, q3⟩
/-- a op1 b op2 c -/
def tChain (r r' : R2) (ta tb tc : TE) : TE := fun σ H Q => ta σ H fun x H1 => tb σ H1 fun y H2 => r x y H2 fun z H3 => ∃ k, z = .bl k ∧
  (if k = true then tc σ H3 fun w' H4 => r' y w' H4 Q else Q (.bl false) H3)
theorem pe_chain {op op' : CmpOp} {r r' : R2} (ho : OpR X (compareOp op) r) (ho' : OpR X (compareOp op') r') (ha : PE X a ta) (hb : PE X b tb) (hc : PE X c tc)
    (hm : lastMarks [op, op'] [b, c] = false := by with_unfolding_all rfl) : PE X (.Compare a [op, op'] [b, c] pos) (tChain r r' ta tb tc) := by
  intro pins s σ H Q I h
  refine Compare_chain (thn (ha pins s σ H _ I h) fun v s1 ⟨x, H1, I1, r1, q1⟩ => chain_link (thn (hb pins s1 σ H1 _ I1 q1) fun u s2 ⟨y, H2, I2, r2, q2⟩ =>
    thn (ho pins s2 σ H2 x y v u _ I2 r1 r2 q2) fun d s3 ⟨z, H3, I3, r3, k, e, q3⟩ => ?_)) hm
  subst e
  cases r3
  refine wpAny_truthy_bool ?_
  cases k with
  | false => exact ite_ff ⟨.bl false, H3, I3, rfl, q3⟩
  | true => exact ite_tt (chain_last (thn (hc pins s3 σ H3 _ I3 q3) fun w' s4 ⟨z', H4, I4, r4, q4⟩ => ho' pins s4 σ H4 y z' u w' Q I4 r2 r4 q4))
/-! ### truth -/
theorem line63 : (sizeLine : Nat) < 2 ^ 63 := by rw [sizeLine_eq]; decide
/-! ### strs and bytes -/
/-! ### scalar builtins, by CallR -/
theorem vals1 {x : V} {us : List Value} (r : Vals [x] us) : ∃ u, us = [u] ∧ RelV x u := by
  cases r with
  | cons r1 r2 => cases r2; exact ⟨_, rfl, r1⟩
theorem vals2 {x y : V} {us : List Value} (r : Vals [x, y] us) : ∃ u w', us = [u, w'] ∧ RelV x u ∧ RelV y w' := by
  cases r with
  | cons r1 r2 =>
    cases r2 with
    | cons r3 r4 => cases r4; exact ⟨_, _, rfl, r1, r3⟩
theorem call_abs : CallR X (.builtin "abs") (fun xs H Q => ∃ i, xs = [.int i] ∧ Q (.int (if i < 0 then -i else i)) H) := by
  intro pins s σ H xs us Q I r h
  obtain ⟨i, rfl, q⟩ := h
  obtain ⟨u, rfl, t, rfl⟩ := vals1 r
  exact call_abs_int fun u tk => ⟨.int (if i < 0 then -i else i), H, I.tok _, ⟨_, rfl⟩, q⟩
theorem call_max2 (hc : X.calm = true) : CallR X (.builtin "max") (fun xs H Q => ∃ i j, xs = [.int i, .int j] ∧ Q (.int (if j > i then j else i)) H) := by
  intro pins s σ H xs us Q I r h
  obtain ⟨i, j, rfl, q⟩ := h
  obtain ⟨u, w', rfl, ⟨t, rfl⟩, ⟨t', rfl⟩⟩ := vals2 r
  refine max_two_ints (I.ok.hd hc) fun h' tk k => ⟨_, H, I.kept k, ?_, q⟩
  by_cases hj : j > i
  · rw [if_pos hj, if_pos hj]; exact ⟨_, rfl⟩
  · rw [if_neg hj, if_neg hj]; exact ⟨_, rfl⟩
theorem call_min2 (hc : X.calm = true) : CallR X (.builtin "min") (fun xs H Q => ∃ i j, xs = [.int i, .int j] ∧ Q (.int (if j < i then j else i)) H) := by
  intro pins s σ H xs us Q I r h
  obtain ⟨i, j, rfl, q⟩ := h
  obtain ⟨u, w', rfl, ⟨t, rfl⟩, ⟨t', rfl⟩⟩ := vals2 r
  refine min_two_ints (I.ok.hd hc) fun h' tk k => ⟨_, H, I.kept k, ?_, q⟩
  by_cases hj : j < i
  · rw [if_pos hj, if_pos hj]; exact ⟨_, rfl⟩
  · rw [if_neg hj, if_neg hj]; exact ⟨_, rfl⟩
end
end L2

namespace L2
open PySem PySem.Spec PyProof.Rows

/-! ### an instance, its attributes a map -/
structure ObjM (h : Heap) (x dx C : Addr) (mA : Str → Option Value) : Prop where
  obj : h.get? x = some (PySem.W.instObj C dx)
  ns : h.Ns1 dx mA
  ne : dx ≠ x

theorem lookIn_ns {h : Heap} {dx : Addr} {mA : Str → Option Value} (n : h.Ns1 dx mA) : ∃ od, h.get? dx = some od ∧ ∀ name, PySem.W.lookIn name od = some (mA name) := by
  obtain ⟨o, es, ep, ho, hd, hk, _, hm⟩ := n
  refine ⟨o, ho, fun name => ?_⟩
  have e := hm name
  unfold nsFind findBy at e
  rw [← Array.find?_toList] at e
  unfold PySem.W.lookIn
  rw [hd]
  dsimp only
  split
  · rename_i y q
    rw [q] at e
    exact congrArg some e
  · rename_i q
    rw [q] at e
    have a : es.toList.any (·.refKey) = false := by
      rw [List.any_eq_false]
      intro y hy
      obtain ⟨z, t, hkey⟩ := hk y (Array.mem_toList_iff.mp hy)
      simp [DictEntry.refKey, hkey]
    have a' : ¬ es.toList.any (·.refKey) = true := by rw [a]; exact Bool.false_ne_true
    rw [if_neg a']
    exact congrArg some e

theorem ObjM.look {h : Heap} {x dx C : Addr} {mA : Str → Option Value} (I : ObjM h x dx C mA) : ∃ od, PySem.W.InstAt h x (PySem.W.instObj C dx) C (some od) ∧ ∀ name, PySem.W.lookIn name od = some (mA name) :=
  let ⟨od, ho, hl⟩ := lookIn_ns I.ns
  ⟨od, ⟨I.obj, rfl, rfl, ho⟩, hl⟩

section
variable {prog : Program} {w : World} {A : Around} {E : Value → Shared → Prop} {s : Shared} {K : PySem.W.Frag} {x dx C f : Addr} {mA : Str → Option Value} {name : Str} {v : Value}

end

/-! ### the attributes as a list of pairs -/
section
variable {P : Program} {w : World} {H H' : Hp} {h h' : Heap} {a C dx : Addr} {fs fs' : List (Str × V)}
theorem ins_get (hok : HOk P w H h) (e : H a = some (.ins C dx fs)) : ∃ mA, ObjM h a dx C mA ∧ (∀ f, RelO (fs.lookup f) (mA f)) ∧ PySem.Within mA (fs.map (·.1)) ∧ fs.length ≤ 1000 ∧ H dx = some (.own a) := by
  obtain ⟨d, z, ne, ob, mA, n, r, q⟩ := (show ObjOk P w H h a (.ins C dx fs) from hok a _ e)
  exact ⟨mA, ⟨ob, n, ne⟩, r, q, z, d⟩
end

/-! ### what of the text a class must have -/
structure Cls (K : PySem.W.Frag) (C : Addr) : Prop where
  pg : PySem.W.plainGet K C Str.empty = true
  hd : PySem.W.hasDictIn K C = true
  po : PySem.W.plainOver K C = true
  sa : PySem.W.findIn K (.ref C) "__setattr__" = some (some (.builtin "object.__setattr__"))
theorem Cls.get {K : PySem.W.Frag} {C : Addr} (c : Cls K C) (f : Str) : PySem.W.plainGet K C f = true := c.pg
/-- a constant of the class -/
structure Con (K : PySem.W.Frag) (C : Addr) (f : Str) (v : V) (u : Value) : Prop where
  at_ : PySem.W.findIn K (.ref C) f = some (some u)
  rel : RelV v u
  get : PySem.W.specialIn K u "__get__" = some none
  cp : PySem.W.copiedNames.contains f = false
/-- a method: a plain def of the class or of one above it -/
structure Meth (K : PySem.W.Frag) (C : Addr) (m : Str) (f : Addr) : Prop where
  at_ : PySem.W.findIn K (.ref C) m = some (some (.ref f))
  fn : PySem.W.isFn K (.ref f) = true
  kp : PySem.W.keepIn K (.ref f) = true

section
variable {X : Cx} {pins : List (Addr × Obj)} {σ : St} {H : Hp} {s : Shared} {a C dx : Addr} {fs : List (Str × V)} {f : Str} {v : V} {A : Around} {E : Value → Shared → Prop}

/-- a new instance, tracked, without attributes -/
theorem Inv.made (I : Inv X pins σ H s) : Inv X pins σ (upd (upd H s.heap.objs.size (.own (s.heap.objs.size + 1))) (s.heap.objs.size + 1) (.ins C s.heap.objs.size []))
    { s with heap := (s.heap.push PySem.W.emptyDict).push (PySem.W.instObj C s.heap.objs.size) } := by
  have e1 : (s.heap.push PySem.W.emptyDict).get? s.heap.objs.size = some PySem.W.emptyDict := Heap.get?_push_size s.heap rfl
  have e2 : ((s.heap.push PySem.W.emptyDict).push (PySem.W.instObj C s.heap.objs.size)).get? (s.heap.objs.size + 1) = some (PySem.W.instObj C s.heap.objs.size) := by
    have := Heap.get?_push_size (s.heap.push PySem.W.emptyDict) (o := PySem.W.instObj C s.heap.objs.size) rfl
    rwa [Heap.size_push] at this
  have e3 : (s.heap.push PySem.W.emptyDict).Ns s.heap.objs.size (fun _ => none) := ⟨PySem.W.emptyDict, #[], _, e1, rfl, (fun e he => absurd he (by simp)), fun _ => rfl⟩
  have I1 := I.laid (a := s.heap.objs.size) (o := .own (s.heap.objs.size + 1)) (h' := s.heap.push PySem.W.emptyDict) (t' := s.toks) (fun b u q => Heap.get?_push_of_some _ q) (Nat.le_refl _) ⟨_, e1⟩
  refine I1.laid (a := s.heap.objs.size + 1) (o := .ins C s.heap.objs.size []) (t' := s.toks) (fun b u q => Heap.get?_push_of_some _ q) (Nat.le_of_eq (Heap.size_push _ _)) ?_
  have ne : s.heap.objs.size ≠ s.heap.objs.size + 1 := Nat.ne_of_lt (Nat.lt_succ_self _)
  refine ⟨by rw [upd_ne ne, upd_same], Nat.zero_le _, ne, e2, fun _ => none, (Heap.Ns1.of_empty e3).at fun o q => Heap.get?_push_of_some _ q, fun _ => True.intro, fun y hy => absurd rfl hy⟩

end

/-! ### readings and rules -/
section
variable {X : Cx} {o e value : Expr} {f : Str} {pos pos' tpos : Pos} {ta tv : TE}
end

/-! ### isinstance -/
section
variable {X : Cx} {pins : List (Addr × Obj)} {σ : St} {H : Hp} {s : Shared} {A : Around} {E : Value → Shared → Prop} {Q : Value → Shared → Prop} {c : Value} {b : Bool}
/-- the type of a value, as the fragment's deciders take it; for an instance its class -/
inductive TyOf (K : PySem.W.Frag) (H : Hp) : V → Value → Prop where
  | non : TyOf K H .non (.type "NoneType")
  | bl (x : Bool) : TyOf K H (.bl x) (.type "bool")
  | int (i : Int) : TyOf K H (.int i) (.type "int")
  | str (x : Str) : TyOf K H (.str x) (.type "str")
  | flt (x : UInt64) : TyOf K H (.flt x) (.type "float")
  | lst {a : Addr} {xs : List V} (e : H a = some (.lst xs)) : TyOf K H (.ref a) (.type "list")
  | frz {a : Addr} {o : Obj} {xs : List V} (e : H a = some (.frz o (.lst xs))) : TyOf K H (.ref a) (.type "list")
  | tup {a : Addr} {xs : List V} (e : H a = some (.tup xs)) : TyOf K H (.ref a) (.type "tuple")
  | dK {a : Addr} {kvs : List (Key × V)} (e : H a = some (.dK kvs)) : TyOf K H (.ref a) (.type "dict")
  | dT {a : Addr} {kvs : List (List Key × V)} (e : H a = some (.dT kvs)) : TyOf K H (.ref a) (.type "dict")
  | ins {a C dx : Addr} {fs : List (Str × V)} (e : H a = some (.ins C dx fs)) (cl : Cls K C) (ha : PySem.W.findIn K (.ref C) "__class__" = some (some (.builtin "object.__class__")))
      (hn : PySem.W.specialIn K (.builtin "object.__class__") "__get__" = some (some (.builtin "getset_descriptor.__get__"))) (htk : PySem.W.takesIn K (.builtin "object.__class__") = some true)
      (hm : PySem.W.mroIn K C (.type "object") = some true) : TyOf K H (.ref a) (.ref C)
/-- isinstance(x, c) for one class c, a built-in or an own one: kitOne's answer -/
theorem isinst_ok {x : V} {u t : Value} (I : Inv X pins σ H s) (rx : RelV x u) (ty : TyOf X.K H x t) (e : PySem.W.kitOne X.K t c = some b) (h : ∀ tk, Q (.bool b) { s with toks := tk }) :
    wpAny (model X.prog X.w) A (call (.builtin "isinstance") [u, c]) Q E s := by
  cases ty with
  | non => cases (show u = Value.none from rx); exact PySem.W.kia_one PySem.W.kitx_none I.kIn True.intro e (fun z => nomatch z) h
  | bl y => cases (show u = Value.bool y from rx); exact PySem.W.kia_one PySem.W.kitx_bool I.kIn True.intro e (fun z => nomatch z) h
  | int i => obtain ⟨t, q⟩ := (show ∃ t, u = Value.int i t from rx); cases q; exact PySem.W.kia_one PySem.W.kitx_int I.kIn True.intro e (fun z => nomatch z) h
  | str y => obtain ⟨t, q⟩ := (show ∃ t, u = Value.str y t from rx); cases q; exact PySem.W.kia_one PySem.W.kitx_str I.kIn True.intro e (fun z => nomatch z) h
  | flt y => obtain ⟨t, q⟩ := (show ∃ t, u = Value.float y t from rx); cases q; exact PySem.W.kia_one PySem.W.kitx_float I.kIn True.intro e (fun z => nomatch z) h
  | @lst a xs ea =>
    cases (show u = Value.ref a from rx)
    obtain ⟨_, _, n, _, h1⟩ := (show ObjOk X.prog X.w H s.heap a (.lst xs) from I.hok a _ ea)
    exact PySem.W.kia_one PySem.W.kitx_list I.kIn ⟨_, h1, rfl⟩ e (fun z => nomatch z) h
  | @frz a ob xs ea =>
    cases (show u = Value.ref a from rx)
    obtain ⟨_, _, _, n, _, h1⟩ := (show ObjOk X.prog X.w H s.heap a (.frz ob (.lst xs)) from I.hok a _ ea)
    exact PySem.W.kia_one PySem.W.kitx_list I.kIn ⟨_, h1, rfl⟩ e (fun z => nomatch z) h
  | @tup a xs ea =>
    cases (show u = Value.ref a from rx)
    obtain ⟨_, _, _, p⟩ := (show ObjOk X.prog X.w H s.heap a (.tup xs) from I.hok a _ ea)
    obtain ⟨o, h1, h2, _⟩ := p
    exact PySem.W.kia_one PySem.W.kitx_tuple I.kIn ⟨o, h1, h2⟩ e (fun z => nomatch z) h
  | @dK a kvs ea =>
    cases (show u = Value.ref a from rx)
    obtain ⟨_, _, vs, _, p⟩ := (show ObjOk X.prog X.w H s.heap a (.dK kvs) from I.hok a _ ea)
    obtain ⟨o, es, ep, h1, h2, _⟩ := p
    exact PySem.W.kia_one PySem.W.kitx_dict I.kIn ⟨o, h1, h2.1⟩ e (fun z => nomatch z) h
  | @dT a kvs ea =>
    cases (show u = Value.ref a from rx)
    obtain ⟨_, _, xs, _, o, es, ep, h1, h2, _⟩ := (show ObjOk X.prog X.w H s.heap a (.dT kvs) from I.hok a _ ea)
    exact PySem.W.kia_one PySem.W.kitx_dict I.kIn ⟨o, h1, h2.1⟩ e (fun z => nomatch z) h
  | @ins a C dx fs ea cl ha hn htk hm =>
    cases (show u = Value.ref a from rx)
    obtain ⟨mA, O, _⟩ := ins_get I.hok ea
    obtain ⟨od, J, _⟩ := O.look
    exact PySem.W.kia_one (PySem.W.kitx_own (cl.get _) cl.hd ha hn htk hm) I.kIn J e (fun z => nomatch z) h
end
end L2

namespace L2
open PySem PySem.Spec PyProof.Rows

/-! ### room -/
structure Room (k : Nat) (A : Around) : Prop where
  hd : A.handled = none
  dp : A.depth + 3 * k + 5 < recursionLimit
  un : A.units + 16 * k + 200 < cLine
theorem Room.mono {j k : Nat} {A : Around} (r : Room k A) (h : j ≤ k) : Room j A := ⟨r.hd, by have := r.dp; omega, by have := r.un; omega⟩
theorem Room.deeper {k : Nat} {A : Around} (r : Room (k + 1) A) (env : Env) : Room k (A.deeper env) :=
  ⟨r.hd, by have := r.dp; show A.depth + 1 + 3 * k + 5 < _; omega, by have := r.un; show A.units + 3 + 16 * k + 200 < _; omega⟩
theorem Room.depth {k : Nat} {A : Around} (r : Room k A) : A.depth < recursionLimit := by have := r.dp; omega
theorem Room.units {k : Nat} {A : Around} (r : Room k A) : A.units + 64 < cLine := by have := r.un; omega
/-! ### argument lists and displays -/
def tNil : TA := fun _ H Q => Q [] H
def tCons (ta : TE) (tr : TA) : TA := fun σ H Q => ta σ H fun x H1 => tr σ H1 fun xs H2 => Q (x :: xs) H2
section
variable {X : Cx} {e : Expr} {es : List Expr} {te : TE} {t : TA} {pos : Pos}
theorem pa_nil : PA X [] tNil := fun _ _ _ _ H Q I h => Calls.spliced_nil ⟨[], H, I, .nil, h⟩
theorem pa_cons (ha : PE X e te) (hr : PA X es t) (hs : starEach (e :: es) X.env = (false, eval e X.env) :: starEach es X.env := by rfl) : PA X (e :: es) (tCons te t) := by
  intro pos pins s σ H Q I h
  rw [hs]
  show wpAny _ _ (spliced ((false, eval e X.env) :: backTo pos (starEach es X.env))) _ _ s
  refine Calls.spliced_cons (thn (ha pins s σ H _ I h) fun u s1 ⟨x, H1, I1, r1, q1⟩ => ?_)
  exact thn (hr pos pins s1 σ H1 _ I1 q1) fun us s2 ⟨xs, H2, I2, r2, q2⟩ => ⟨x :: xs, H2, I2, .cons r1 r2, q2⟩

/-- a tuple, a list of written items -/
def tTup (t : TA) : TE := fun σ H Q => t σ H fun xs H1 => xs.length ≤ sizeLine ∧ ∀ p, H1 p = none → Q (.ref p) (upd H1 p (.tup xs))
def tLst (t : TA) : TE := fun σ H Q => t σ H fun xs H1 => xs.length ≤ sizeLine ∧ ∀ p, H1 p = none → Q (.ref p) (upd H1 p (.lst xs))
theorem pe_tup {x1} (h : PA X es t) : PE X (.Tuple es x1 pos) (tTup t) := by
  intro pins s σ H Q I hq
  refine wpAny_Tuple_spliced (thn (h pos pins s σ H _ I hq) fun us s1 ⟨xs, H1, I1, r, z, q⟩ => ⟨by rw [← r.length]; exact z, ?_⟩)
  have hf : H1 s1.heap.objs.size = none := I1.hok.fresh (Nat.le_refl _)
  refine ⟨.ref s1.heap.objs.size, upd H1 s1.heap.objs.size (.tup xs), I1.laid (t' := s1.toks) (fun b u e => Heap.get?_push_of_some _ e) (Nat.le_refl _) ?_, rfl, q _ hf⟩
  exact ⟨z, us, r, ⟨_, Heap.get?_push_size _ rfl, rfl, _, rfl⟩⟩
theorem pe_lst (h : PA X es t) : PE X (.List es pos) (tLst t) := by
  intro pins s σ H Q I hq
  refine wpAny_List_spliced (thn (h pos pins s σ H _ I hq) fun us s1 ⟨xs, H1, I1, r, z, q⟩ => ⟨by rw [← r.length]; exact z, ?_⟩)
  have hf : H1 s1.heap.objs.size = none := I1.hok.fresh (Nat.le_refl _)
  refine ⟨.ref s1.heap.objs.size, upd H1 s1.heap.objs.size (.lst xs), I1.laid (t' := s1.toks) (fun b u e => Heap.get?_push_of_some _ e) (Nat.le_refl _) ?_, rfl, q _ hf⟩
  exact ⟨z, us, 0, r, Heap.get?_push_size _ rfl⟩
end

/-! ### what a def promises -/
/-- a def's promise: the bound arguments in the parameters' order, the heap, the wanted end, the wanted exception -/
abbrev Sp := List V → Hp → VK → XK → Prop
/-- how an exception lies behind a call (file 08 gives it): the callers' frames, abstract heap and state ahead of the call, the wish, the exception, the state -/
abbrev CXT := List Env → Hp → Shared → XK → Value → Shared → Prop

/-- the state at a call -/
structure Env0 (P : Program) (w : World) (K : PySem.W.Frag) (mg : Str → Option Value) (base : Heap) (A : Around) (outer : List Env) (s : Shared) (H : Hp) : Prop where
  frames : A.frames = some outer
  mod : Mod K mg base
  bs : ∀ b o, base.get? b = some o → s.heap.get? b = some o ∧ H b = none
  bsz : base.objs.size ≤ s.heap.objs.size
  funs : s.heap.FunFrames base outer
  frf : ∀ b ∈ frs outer, H b = none
  hok : HOk P w H s.heap
  bare : AllBare s.gens
/-- a call's end -/
def CE (outer : List Env) (P : Program) (w : World) (H : Hp) (s : Shared) (Q : VK) (u : Value) (s' : Shared) : Prop :=
  ∃ v H', s'.os = s.os ∧ AllBare s'.gens ∧ Un (frs outer) [] H H' s.heap s'.heap ∧ HOk P w H' s'.heap ∧ RelV v u ∧ Q v H'
def CR (CX : CXT) (outer : List Env) (P : Program) (w : World) (H : Hp) (s : Shared) (Q : VK) (E : XK) (r : Result) (s' : Shared) : Prop :=
  match r with
  | .ok (.ret u) => CE outer P w H s Q u s'
  | .ok _ => False
  | .error e => CX outer H s E e s'
structure FnOk (P : Program) (w : World) (K : PySem.W.Frag) (mg : Str → Option Value) (base : Heap) (CX : CXT) (k : Nat) (f : Addr) (fd : FuncData) (ps : List Str) (sp : Sp) : Prop where
  len : ∀ vs H Q E, sp vs H Q E → vs.length = ps.length
  run : ∀ (A : Around) (outer : List Env) (s : Shared) (H : Hp) (args : Args) (us : List Value) (vs : List V) (Q : VK) (E : XK), Room k A → Env0 P w K mg base A outer s H → BindsTo s fd args (ps.zip us) → Vals vs us → sp vs H Q E →
    codeAny (model P w) A (.call (.ref f) args) (CR CX outer P w H s Q E) s
theorem FnOk.mono {P : Program} {w : World} {K : PySem.W.Frag} {mg : Str → Option Value} {base : Heap} {CX : CXT} {j k : Nat} {f : Addr} {fd : FuncData} {ps : List Str} {sp : Sp} (F : FnOk P w K mg base CX j f fd ps sp) (h : j ≤ k) :
    FnOk P w K mg base CX k f fd ps sp := ⟨F.len, fun A outer s H args us vs Q E hr => F.run A outer s H args us vs Q E (hr.mono h)⟩
/-- a weaker promise -/
theorem FnOk.imp {P : Program} {w : World} {K : PySem.W.Frag} {mg : Str → Option Value} {base : Heap} {CX : CXT} {k : Nat} {f : Addr} {fd : FuncData} {ps : List Str} {sp sp' : Sp} (F : FnOk P w K mg base CX k f fd ps sp)
    (h : ∀ vs H Q E, sp' vs H Q E → sp vs H Q E) : FnOk P w K mg base CX k f fd ps sp' :=
  ⟨fun vs H Q E q => F.len vs H Q E (h _ _ _ _ q), fun A outer s H args us vs Q E hr he hb hv hs => F.run A outer s H args us vs Q E hr he hb hv (h _ _ _ _ hs)⟩

section
variable {X : Cx} {pins : List (Addr × Obj)} {σ : St} {H : Hp} {s s' : Shared}
/-- from a body: what a callee wants -/
theorem Inv.env0 (I : Inv X pins σ H s) : Env0 X.prog X.w X.K X.mg X.base X.A X.stack s H :=
  ⟨I.ok.frames, I.ok.mod, I.bs, Nat.le_trans I.ok.bsz I.sz, I.stack, I.stkFree, I.hok, I.bare⟩
/-- behind a call -/
theorem Inv.after {Q : VK} {u : Value} (I : Inv X pins σ H s) (h : CE X.stack X.prog X.w H s Q u s') : EP X pins σ Q u s' := by
  obtain ⟨v, H', os, bare, un, hok, r, q⟩ := h
  obtain ⟨hh, g, d, t, os'⟩ := s'
  obtain rfl : os' = s.os := os
  exact ⟨v, H', I.call (h' := hh) (g' := g) (d' := d) (t' := t) (ch := []) un hok bare (fun b z => absurd z (by simp)), r, q⟩
end

/-! ### calls -/
/-- f(..): the written arguments, then the defaults dvs; E: what is wanted of an exception -/
def tCall (sp : Sp) (dvs : List V) (E : XK) (t : TA) : TE := fun σ H Q => t σ H fun vs H1 => sp (vs ++ dvs) H1 Q E
/-- how the parameters are bound: us the positional arguments, kw the keywords' values by name, ds the defaults that fill up -/
def Binds (K : PySem.W.Frag) (fd : FuncData) (ps : List Str) (ds : List Value) : Prop :=
  ∀ (s : Shared) (us : List Value), K.In s.heap → (us ++ ds).length = ps.length → BindsTo s fd ⟨us, []⟩ (ps.zip (us ++ ds))
/-- every parameter is given -/
theorem Binds.all {K : PySem.W.Frag} {fd : FuncData} {ps : List Str} (h : ∀ us : List Value, us.length = ps.length → bindArgs fd ⟨us, []⟩ = pure (ps.zip us)) : Binds K fd ps [] := fun s us _ hl => by
  rw [List.append_nil] at hl ⊢
  exact .of_eq (h us hl)

/-- an exception of a callee reaches what this body wants of exceptions -/
def Passes (CX : CXT) (X : Cx) (E : XK) : Prop := ∀ (pins : List (Addr × Obj)) (σ : St) (H : Hp) (s : Shared) (e : Value) (s' : Shared), Inv X pins σ H s → CX X.stack H s E e s' → X.xe e s'

section
variable {X : Cx} {CX : CXT} {k : Nat} {f C : Addr} {fd : FuncData} {ps : List Str} {sp : Sp} {dvs : List V} {ds : List Value} {E : XK} {x m : Str} {p pos apos : Pos} {e o : Expr} {es : List Expr} {ta : TE} {t : TA}

/-- the callee runs -/
theorem run_fn {pins : List (Addr × Obj)} {σ : St} {H : Hp} {s : Shared} {Q : VK} {us : List Value} {vs : List V} (F : FnOk X.prog X.w X.K X.mg X.base CX k f fd ps sp) (hr : Room k X.A) (hb : Binds X.K fd ps ds) (hd : Vals dvs ds) (hx : Passes CX X E)
    (I : Inv X pins σ H s) (r : Vals vs us) (h : sp (vs ++ dvs) H Q E) : wpAny (model X.prog X.w) X.A (call (.ref f) us) (EP X pins σ Q) X.xe s := by
  have r2 : Vals (vs ++ dvs) (us ++ ds) := r.append hd
  have hl : (us ++ ds).length = ps.length := by rw [← r2.length]; exact F.len _ _ _ _ h
  refine wpAny_call (codeAny_mono (F.run X.A X.stack s H ⟨us, []⟩ (us ++ ds) (vs ++ dvs) Q E hr I.env0 (hb s us I.kIn hl) r2 h) fun r s' hq => ?_)
  cases r with
  | error e => exact hx pins σ H s e s' I hq
  | ok fl =>
    cases fl with
    | ret u => exact I.after hq
    | next => exact False.elim hq
    | brk => exact False.elim hq
    | cont => exact False.elim hq

theorem pe_call (F : FnOk X.prog X.w X.K X.mg X.base CX k f fd ps sp) (hr : Room k X.A) (hg : Gl X x) (hm : X.mg x = some (.ref f)) (hk : PySem.W.keepIn X.K (.ref f) = true) (hb : Binds X.K fd ps ds) (hd : Vals dvs ds) (hx : Passes CX X E)
    (ha : PA X (e :: es) t) (hdb : (x == ("__debug__" : Str)) = false := by decide) (he : starEach (e :: es) X.env = (false, eval e X.env) :: starEach es X.env := by rfl) (hpl : (backTo pos (starEach es X.env)).any (·.1) = false := by rfl) :
    PE X (.Call (.Name x p) (e :: es) [] pos) (tCall sp dvs E t) := by
  intro pins s σ H Q I h
  refine wpAny_Call_Name_kw (ld_glob I hg hm ?_ hdb)
  refine PySem.W.callWith_K (h₀ := X.base) I.ok.mod.kin hk (thn (ha pos pins s σ H _ I h) fun us s1 ⟨vs, H1, I1, r, q⟩ => ⟨I1.kIn, ?_⟩) he hpl
  exact run_fn F hr hb hd hx I1 r q
/-- what a class must have to be made -/
structure Mk (K : PySem.W.Frag) (C f : Addr) : Prop where
  makes : PySem.W.makesIn K C = true
  init : PySem.W.findIn K (.ref C) "__init__" = some (some (.ref f))
  fn : PySem.W.isFn K (.ref f) = true
  kp : PySem.W.keepIn K (.ref C) = true

end

/-! ### keywords -/
section
variable {X : Cx} {CX : CXT} {k : Nat} {f C : Addr} {fd : FuncData} {ps ks : List Str} {sp : Sp} {E : XK} {x m : Str} {p pos apos kpos : Pos} {e o : Expr} {es : List Expr} {kws : List Keyword} {te ta : TE} {t tk : TA} {nm : Option Str}
/-- how a call with keywords binds: g puts the positional values us and the keywords' values ws (names ks) in the parameters' order, defaults among them -/
structure KBinds (K : PySem.W.Frag) (fd : FuncData) (ps ks : List Str) (g : List Value → List Value → List Value) (gV : List V → List V → List V) : Prop where
  to : ∀ (s : Shared) (us ws : List Value), K.In s.heap → (g us ws).length = ps.length → BindsTo s fd ⟨us, ks.zip ws⟩ (ps.zip (g us ws))
  rel : ∀ {vs : List V} {us : List Value} {zs : List V} {ws : List Value}, Vals vs us → Vals zs ws → Vals (gV vs zs) (g us ws)
variable {g : List Value → List Value → List Value} {gV : List V → List V → List V}
end

/-! ### a def's body keeps its promise -/
/-- names: the parameters first -/
structure FnScope (N P : List Str) (sc : Scope) : Prop where
  kind : sc.kind = .function
  co : sc.isCoroutine = false
  gen : sc.isGenerator = false
  nd : N.Nodup
  pre : N.take P.length = P
  par : ∀ x ∈ P, sc.names.lookup x = some .local ∨ sc.names.lookup x = some .cell
  nofree : ∀ y ∈ sc.names, y.2 ≠ .free

theorem bindL_out {kindOf : Str → Option NameKind} {x : Str} : ∀ {binds : List (Str × Value)} {m : Str → Option Value}, (∀ v, (x, v) ∉ binds) → bindL kindOf binds m x = m x
  | [], _, _ => rfl
  | (n, v) :: r, m, h => by
    unfold bindL
    rw [bindL_out fun w hw => h w (List.mem_cons_of_mem _ hw)]
    split
    · have : x ≠ n := by rintro rfl; exact h v List.mem_cons_self
      simp [this]
    · rfl
theorem bindC_out {kindOf : Str → Option NameKind} {x : Str} : ∀ {binds : List (Str × Value)} {m : Str → Option Value}, (∀ v, (x, v) ∉ binds) → bindC kindOf binds m x = m x
  | [], _, _ => rfl
  | (n, v) :: r, m, h => by
    unfold bindC
    rw [bindC_out fun w hw => h w (List.mem_cons_of_mem _ hw)]
    split
    · rfl
    · have : x ≠ n := by rintro rfl; exact h v List.mem_cons_self
      simp [this]
theorem bindL_get {kindOf : Str → Option NameKind} {x : Str} {v : Value} : ∀ {P : List Str} {vs : List Value} {i : Nat} {m : Str → Option Value}, P.Nodup → P[i]? = some x → vs[i]? = some v → kindOf x = some .local →
    bindL kindOf (P.zip vs) m x = some v
  | [], _, _, _, _, h, _, _ => by simp at h
  | _ :: _, [], _, _, _, _, h, _ => by simp at h
  | p :: P, w :: vs, 0, m, nd, h1, h2, hk => by
    simp at h1 h2; subst h1; subst h2
    show bindL kindOf ((p, w) :: P.zip vs) m p = _
    unfold bindL
    rw [bindL_out fun v hv => (List.nodup_cons.mp nd).1 (List.of_mem_zip hv).1, if_pos hk]
    simp
  | p :: P, w :: vs, i + 1, m, nd, h1, h2, hk => by
    show bindL kindOf ((p, w) :: P.zip vs) m x = _
    unfold bindL
    exact bindL_get (i := i) (List.nodup_cons.mp nd).2 (by simpa using h1) (by simpa using h2) hk
theorem bindC_get {kindOf : Str → Option NameKind} {x : Str} {v : Value} : ∀ {P : List Str} {vs : List Value} {i : Nat} {m : Str → Option Value}, P.Nodup → P[i]? = some x → vs[i]? = some v → kindOf x ≠ some .local →
    bindC kindOf (P.zip vs) m x = some v
  | [], _, _, _, _, h, _, _ => by simp at h
  | _ :: _, [], _, _, _, _, h, _ => by simp at h
  | p :: P, w :: vs, 0, m, nd, h1, h2, hk => by
    simp at h1 h2; subst h1; subst h2
    show bindC kindOf ((p, w) :: P.zip vs) m p = _
    unfold bindC
    rw [bindC_out fun v hv => (List.nodup_cons.mp nd).1 (List.of_mem_zip hv).1, if_neg hk]
    simp
  | p :: P, w :: vs, i + 1, m, nd, h1, h2, hk => by
    show bindC kindOf ((p, w) :: P.zip vs) m x = _
    unfold bindC
    exact bindC_get (i := i) (List.nodup_cons.mp nd).2 (by simpa using h1) (by simpa using h2) hk

/-- the names' values at the entry -/
def start (N : List Str) (vs : List V) : St := vs.map some ++ List.replicate (N.length - vs.length) none

/-- the context of a def's body, at its entry; an exception leaves the frame, then lies as CX says -/
def cxOf (CX : CXT) (P : Program) (w : World) (K : PySem.W.Frag) (mg : Str → Option Value) (base : Heap) (N : List Str) (qual : Str) (scope : Scope) (f : Addr) (cd : Value) (A : Around) (outer : List Env) (s : Shared) (H : Hp) (E : XK) : Cx where
  prog := P
  w := w
  K := K
  mg := mg
  base := base
  A := A.deeper (envOfC qual scope s.heap.objs.size f cd)
  N := N
  s₀ := s
  H₀ := H
  env := envOfC qual scope s.heap.objs.size f cd
  outer := outer
  stack := envOfC qual scope s.heap.objs.size f cd :: outer
  ex := []
  calm := true
  fn := fun _ => true
  pn := []
  xe := fun e s' => wpAny (model P w) (A.deeper (envOfC qual scope s.heap.objs.size f cd)) (leaving (envOfC qual scope s.heap.objs.size f cd) e) (fun _ s'' => CX outer H s E e s'') (fun e' s'' => CX outer H s E e' s'') s'

theorem cell_has {sc : Scope} {n : Nat} {x : Str} (h : sc.names.lookup x = some .cell) : ∃ c, (cellsFrom n sc.names []).lookup x = some c := by
  have q := PySem.W.cellsFrom_some sc.names n [] (.inl h)
  exact Option.isSome_iff_exists.mp q

theorem inv_start {CX : CXT} {P : Program} {w : World} {K : PySem.W.Frag} {mg : Str → Option Value} {base : Heap} {N ps : List Str} {qual : Str} {scope : Scope} {f : Addr} {cd : Value} {A : Around} {outer : List Env} {s s1 : Shared} {H : Hp} {E : XK} {us : List Value} {vs : List V}
    (S : FnScope N ps scope) (hd : A.handled = none) (e0 : Env0 P w K mg base A outer s H) (hl : vs.length = ps.length) (r : Vals vs us)
    (x : InCallC s s.heap.objs.size (bindL (envOfC qual scope s.heap.objs.size f cd).kindOf (ps.zip us) fun _ => none) (cellsFrom (s.heap.objs.size + 1) scope.names []) (bindC (envOfC qual scope s.heap.objs.size f cd).kindOf (ps.zip us) fun _ => none) s1) :
    Inv (cxOf CX P w K mg base N qual scope f cd A outer s H E) [] (start N vs) H s1 := by
  have hpl : ps.length ≤ N.length := by have := congrArg List.length S.pre; rw [List.length_take] at this; omega
  obtain ⟨h1, tk, rfl, hk⟩ := x.done
  have noA : ∀ b : Addr, b ∉ (cxOf CX P w K mg base N qual scope f cd A outer s H E).ex := fun b z => absurd (show b ∈ ([] : List Addr) from z) (by simp)
  refine ⟨⟨e0.mod, S.kind, rfl, rfl, Nat.le_refl _, fun y z c h1 h2 => ?_, fun y hy => ?_, fun y c _ h => ?_, fun _ => hd, Around.frames_deeper e0.frames, .inr ⟨rfl, rfl⟩, fun b z => absurd z (noA b), e0.bs, e0.bsz, fun b _ _ => noA b, fun b z => absurd z (noA b), e0.funs, e0.frf⟩,
    rfl, e0.bare, Un.kept hk, ⟨_, x.toInCall.ns, fun i y v h1 h2 h3 => ?_⟩, fun y c h => ⟨_, x.cell y c h⟩, e0.hok.fresh (Nat.le_refl _), fun y c h => ?_, fun p hp => absurd (show p ∈ ([] : List (Addr × Obj)) from hp) (by simp), e0.hok.kept hk, ?_⟩
  · exact name_of_addr x.apart (PySem.mem_of_lookup h1) (PySem.mem_of_lookup h2)
  · have hy : scope.names.lookup y = some .cell ∨ scope.names.lookup y = some .free := hy
    rcases hy with hy | hy
    · exact cell_has hy
    · exact absurd rfl (S.nofree _ (PySem.mem_of_lookup hy))
  · exact Nat.le_of_lt (x.above y c (PySem.mem_of_lookup h))
  · have hi : i < vs.length := by
      unfold start at h2
      by_cases hi : i < vs.length
      · exact hi
      · rw [List.getElem?_append_right (by simpa using hi)] at h2
        rw [List.getElem?_replicate] at h2
        split at h2 <;> cases h2
    have ha : vs[i]? = some v := by
      unfold start at h2
      rw [List.getElem?_append_left (by simpa using hi), List.getElem?_map] at h2
      cases e : vs[i]? with
      | none => rw [e] at h2; cases h2
      | some a => rw [e] at h2; cases h2; rfl
    obtain ⟨u, hu, rv⟩ := r.get ha
    have hp : ps[i]? = some y := by
      rw [← S.pre, List.getElem?_take_of_lt (by omega)]; exact h1
    have ndP : ps.Nodup := by rw [← S.pre]; exact S.nd.sublist (List.take_sublist _ _)
    refine ⟨u, rv, ?_⟩
    rcases S.par y (List.mem_of_getElem? hp) with k | k
    · exact .inl ⟨k, bindL_get ndP hp hu k⟩
    · obtain ⟨c, e⟩ := cell_has (n := s.heap.objs.size + 1) k
      refine .inr ⟨.inl k, c, e, ?_⟩
      have q := x.cell y c e
      rw [bindC_get ndP hp hu (by show scope.names.lookup y ≠ _; rw [k]; decide)] at q
      exact q
  · exact e0.hok.fresh (Nat.le_of_lt (x.above y c (PySem.mem_of_lookup h)))
  · unfold start
    show _ = N.length
    rw [List.length_append, List.length_map, List.length_replicate]
    omega

/-- THE RULE: a def (or a method) of the text, by its body. The body's reading t is chosen for each entry; it is run at the parameters' values -/
theorem fn_of {CX : CXT} {P : Program} {w : World} {K : PySem.W.Frag} {mg : Str → Option Value} {base : Heap} {k : Nat} {f : Addr} {name qual : Str} {params : Arguments} {body : List Stmt} {scope : Scope} {dV kV doc pm cdv ct oc : Value} {an od : Option Addr}
    {osl : Array (Option Value)} {N ps : List Str} {sp : Sp} (lk : K.lookup f = some ⟨oc, od, .func (PySem.W.fnOf name qual params body scope dV kV doc pm an cdv ct), osl⟩) (hcd : PySem.W.codeIn K cdv qual = true) (S : FnScope N ps scope)
    (len : ∀ vs H Q E, sp vs H Q E → vs.length = ps.length)
    (hbody : ∀ (A : Around) (outer : List Env) (s : Shared) (H : Hp) (vs : List V) (Q : VK) (E : XK), Room k (A.deeper (envOfC qual scope s.heap.objs.size f cdv)) → sp vs H Q E →
      ∃ t, PSs (cxOf CX P w K mg base N qual scope f cdv A outer s H E) body t ∧ t { nx := fun _ H' => Q .non H', rt := Q } (start N vs) H) :
    FnOk P w K mg base CX (k + 1) f (PySem.W.fnOf name qual params body scope dV kV doc pm an cdv ct) ps sp := by
  refine ⟨len, fun A outer s H args us vs Q E hr e0 hb r hsp => ?_⟩
  have hl := len _ _ _ _ hsp
  have KX : K.In s.heap := e0.mod.kin.keeps fun b o e => (e0.bs b o e).1
  have lim : s.heap.NoLimit := e0.mod.nolimit.keeps fun b o e => (e0.bs b o e).1
  have hkind : ∀ y ∈ ps.zip us, scope.names.lookup y.1 = some .local ∨ (scope.names.lookup y.1 = some .cell ∧ ((cellsFrom (s.heap.objs.size + 1) scope.names []).lookup y.1).isSome = true) := fun ⟨n, v⟩ hy => by
    rcases S.par n (List.of_mem_zip hy).1 with q | q
    · exact .inl q
    · exact .inr ⟨q, PySem.W.cellsFrom_some _ _ _ (.inl q)⟩
  refine codeAny_call_function hr.depth (KX _ _ lk) rfl S.co S.gen rfl (PySem.W.codeRec_of KX hcd) (hb _ _ _ _ ?_)
  refine wpAny_newFunctionEnv_cells S.kind hkind fun env he s1 x => ?_
  subst he
  refine ⟨lim.keeps x.toInCall.keep, codeAny_func ?_⟩
  obtain ⟨t, ht, hq⟩ := hbody A outer s H vs Q E (hr.deeper _) hsp
  have I : Inv (cxOf CX P w K mg base N qual scope f cdv A outer s H E) [] (start N vs) H s1 := inv_start S hr.hd e0 hl r x
  refine wpAny_mono (ht [] s1 (start N vs) H _ I hq) (fun fl s' hs => ?_) fun e s' hs => hs
  have fin : ∀ {σ' : St} {H' : Hp} {v : V} {u : Value}, Inv (cxOf CX P w K mg base N qual scope f cdv A outer s H E) [] σ' H' s' → RelV v u → Q v H' → CE outer P w H s Q u s' :=
    fun {σ' H' v u} J rv q => ⟨v, H', J.os, J.bare, J.base, J.hok, rv, q⟩
  cases fl with
  | ret u =>
    obtain ⟨v, σ', H', J, rv, q⟩ := hs
    exact fin J rv q
  | next =>
    obtain ⟨σ', H', J, q⟩ := hs
    exact fin (v := V.non) (u := Value.none) J rfl q
  | brk =>
    obtain ⟨_, _, _, q⟩ := hs
    exact False.elim q
  | cont =>
    obtain ⟨_, _, _, q⟩ := hs
    exact False.elim q
end L2

namespace L2
open PySem PySem.Spec PyProof.Rows
section
variable {X : Cx} {x : Str} {p pos : Pos} {e : Expr} {es : List Expr} {t : TA} {id T : String} {r : List V → Hp → VK → Prop}

def tCB (r : List V → Hp → VK → Prop) (t : TA) : TE := fun σ H Q => t σ H fun vs H1 => r vs H1 Q
/-- f(e, ..), f a built-in function -/
theorem pe_callB (hc : CallR X (.builtin id) r) (hg : Gl X x) (hm : X.mg x = none) (hv : bootBuiltins x = some (.builtin id)) (ha : PA X (e :: es) t) (hn : x ≠ "__name__" := by decide) (hdb : (x == ("__debug__" : Str)) = false := by decide)
    (he : starEach (e :: es) X.env = (false, eval e X.env) :: starEach es X.env := by rfl) (hpl : (backTo pos (starEach es X.env)).any (·.1) = false := by rfl) : PE X (.Call (.Name x p) (e :: es) [] pos) (tCB r t) := by
  intro pins s σ H Q I h
  refine wpAny_Call_Name_kw (ld_blt I hg hm hv ?_ hn hdb)
  exact PyProof.Rows.callWith_builtin1 (thn (ha pos pins s σ H _ I h) fun us s1 ⟨vs, H1, I1, r1, q1⟩ => hc pins s1 σ H1 vs us Q I1 r1 q1) he hpl
end
end L2

namespace L2
open PySem PySem.Spec PyProof.Rows

/-! ### lists of pairs as tables -/
section
variable {κ : Type} [DecidableEq κ]
def valV (kvs : List (κ × V)) (k : κ) : Option V := (kvs.find? fun kv => decide (kv.1 = k)).map (·.2)
/-- in its place, or at the end -/
def putK (kvs : List (κ × V)) (k : κ) (v : V) : List (κ × V) :=
  if (kvs.any fun kv => decide (kv.1 = k)) = true then kvs.map (fun kv => if kv.1 = k then (kv.1, v) else kv) else kvs ++ [(k, v)]
def dropK (kvs : List (κ × V)) (k : κ) : List (κ × V) := kvs.filter fun kv => decide (kv.1 ≠ k)

theorem valV_pos {p : κ × V} {r : List (κ × V)} {k : κ} (e : p.1 = k) : valV (p :: r) k = some p.2 := by simp [valV, List.find?_cons, e]
theorem valV_neg {p : κ × V} {r : List (κ × V)} {k : κ} (e : ¬ p.1 = k) : valV (p :: r) k = valV r k := by simp [valV, List.find?_cons, e]
theorem valV_any (k : κ) : ∀ kvs : List (κ × V), (kvs.any fun kv => decide (kv.1 = k)) = (valV kvs k).isSome
  | [] => rfl
  | p :: r => by
    rw [List.any_cons]
    by_cases e : p.1 = k
    · simp only [valV_pos e, decide_eq_true e, Bool.true_or, Option.isSome_some]
    · rw [valV_neg e, decide_eq_false e, Bool.false_or]; exact valV_any k r
theorem RelO.isSome_eq {o : Option V} {u : Option Value} (r : RelO o u) : o.isSome = u.isSome := by
  cases o with
  | none => cases u with
    | none => rfl
    | some _ => exact (show False from r).elim
  | some _ => cases u with
    | none => exact (show False from r).elim
    | some _ => rfl
theorem RelO.getD {o : Option V} {u : Option Value} {d : V} {d' : Value} (r : RelO o u) (rd : RelV d d') : RelV (o.getD d) (u.getD d') := by
  cases o with
  | none => cases u with
    | none => exact rd
    | some _ => exact (show False from r).elim
  | some _ => cases u with
    | none => exact (show False from r).elim
    | some _ => exact r

/-- raw tables of the same keys -/
theorem KV.val {kvs : List (κ × V)} {vs : List (κ × Value)} (r : KV kvs vs) (k : κ) : RelO (valV kvs k) (valueAt vs k) := by
  unfold KV at r
  induction r with
  | nil => exact True.intro
  | @cons p q ps qs h t ih =>
    obtain ⟨h1, h2⟩ := h
    by_cases e : p.1 = k
    · have e' : q.1 = k := h1.symm.trans e
      have b : valueAt (q :: qs) k = some q.2 := by simp [valueAt, List.find?_cons, e']
      rw [valV_pos e, b]; exact h2
    · have e' : ¬ q.1 = k := fun z => e (h1.trans z)
      have b : valueAt (q :: qs) k = valueAt qs k := by simp [valueAt, List.find?_cons, e']
      rw [valV_neg e, b]; exact ih
theorem KV.any {kvs : List (κ × V)} {vs : List (κ × Value)} (r : KV kvs vs) (k : κ) : (kvs.any fun kv => decide (kv.1 = k)) = vs.any fun kv => decide (kv.1 = k) := by
  unfold KV at r
  induction r with
  | nil => rfl
  | cons h t ih => rw [List.any_cons, List.any_cons, ih, h.1]
theorem KV.repl {kvs : List (κ × V)} {vs : List (κ × Value)} (r : KV kvs vs) (k : κ) {y : V} {u : Value} (ry : RelV y u) :
    KV (kvs.map fun kv => if kv.1 = k then (kv.1, y) else kv) (vs.map fun kv => if kv.1 = k then (kv.1, u) else kv) := by
  unfold KV at r ⊢
  induction r with
  | nil => exact .nil
  | @cons p q ps qs h t ih =>
    rw [List.map_cons, List.map_cons]
    refine .cons ?_ ih
    obtain ⟨h1, h2⟩ := h
    by_cases e : p.1 = k
    · rw [if_pos e, if_pos (h1.symm.trans e)]; exact ⟨h1, ry⟩
    · rw [if_neg e, if_neg (fun z => e (h1.trans z))]; exact ⟨h1, h2⟩
theorem KV.put {kvs : List (κ × V)} {vs : List (κ × Value)} (r : KV kvs vs) (k : κ) {y : V} {u : Value} (ry : RelV y u) : KV (putK kvs k y) (stored vs k u) := by
  unfold putK stored
  rw [r.any k]
  by_cases e : (vs.any fun kv => decide (kv.1 = k)) = true
  · rw [if_pos e, if_pos e]; exact r.repl k ry
  · rw [if_neg e, if_neg e]; exact Paired.snoc r ⟨rfl, ry⟩
theorem KV.drop {kvs : List (κ × V)} {vs : List (κ × Value)} (r : KV kvs vs) (k : κ) : KV (dropK kvs k) (without vs k) := by
  unfold KV at r ⊢
  unfold dropK without
  induction r with
  | nil => exact .nil
  | @cons p q ps qs h t ih =>
    obtain ⟨h1, h2⟩ := h
    rw [List.filter_cons, List.filter_cons]
    by_cases e : p.1 = k
    · have a : ¬ decide (p.1 ≠ k) = true := by simp [e]
      have b : ¬ decide (q.1 ≠ k) = true := by simp [h1.symm.trans e]
      rw [if_neg a, if_neg b]; exact ih
    · have e' : ¬ q.1 = k := fun z => e (h1.trans z)
      have a : decide (p.1 ≠ k) = true := by simp [e]
      have b : decide (q.1 ≠ k) = true := by simp [e']
      rw [if_pos a, if_pos b]; exact .cons ⟨h1, h2⟩ ih
theorem KV.keys {kvs : List (κ × V)} {vs : List (κ × Value)} (r : KV kvs vs) : kvs.map (·.1) = vs.map (·.1) := by
  unfold KV at r
  induction r with
  | nil => rfl
  | cons h t ih => rw [List.map_cons, List.map_cons, ih, h.1]
theorem KV.length {kvs : List (κ × V)} {vs : List (κ × Value)} (r : KV kvs vs) : kvs.length = vs.length := Paired.length r
end


/-! ### a tracked dict, its keys ints and texts or tuples of these -/
/-- raw entries of a dict with tuple keys -/
abbrev KT (H : Hp) : List (List Key × V) → List (List Key × Addr × Value) → Prop := Paired fun p q => p.1 = q.1 ∧ H q.2.1 = some (.tup (p.1.map kV)) ∧ RelV p.2 q.2.2
theorem KT.val {H : Hp} {kvs : List (List Key × V)} {xs : List (List Key × Addr × Value)} (r : KT H kvs xs) (k : List Key) : RelO (valV kvs k) ((atKey xs k).map (·.2)) := by
  induction r with
  | nil => exact True.intro
  | @cons p q ps qs h t ih =>
    obtain ⟨h1, _, h2⟩ := h
    by_cases e : p.1 = k
    · have e' : q.1 = k := h1.symm.trans e
      have b : atKey (q :: qs) k = some q.2 := by simp [atKey, List.find?_cons, e']
      rw [valV_pos e, b]; exact h2
    · have e' : ¬ q.1 = k := fun z => e (h1.trans z)
      have b : atKey (q :: qs) k = atKey qs k := by simp [atKey, List.find?_cons, e']
      rw [valV_neg e, b]; exact ih
theorem KT.repl {H : Hp} {kvs : List (List Key × V)} {xs : List (List Key × Addr × Value)} (r : KT H kvs xs) (k : List Key) {y : V} {u : Value} (ry : RelV y u) :
    KT H (kvs.map fun kv => if kv.1 = k then (kv.1, y) else kv) (xs.map (putAt k u)) := by
  induction r with
  | nil => exact .nil
  | @cons p q ps qs h t ih =>
    rw [List.map_cons, List.map_cons]
    refine .cons ?_ ih
    obtain ⟨h1, h2, h3⟩ := h
    unfold putAt
    by_cases e : p.1 = k
    · rw [if_pos e, if_pos (h1.symm.trans e)]; exact ⟨h1, h2, ry⟩
    · rw [if_neg e, if_neg (fun z => e (h1.trans z))]; exact ⟨h1, h2, h3⟩
theorem KT.put {H : Hp} {kvs : List (List Key × V)} {xs : List (List Key × Addr × Value)} (r : KT H kvs xs) (k : List Key) {b : Addr} {y : V} {u : Value} (hb : H b = some (.tup (k.map kV))) (ry : RelV y u) :
    KT H (putK kvs k y) (storedH xs k b u) := by
  have e : (kvs.any fun kv => decide (kv.1 = k)) = (atKey xs k).isSome := by
    rw [valV_any, (r.val k).isSome_eq, Option.isSome_map]
  unfold putK storedH
  rw [e]
  by_cases q : (atKey xs k).isSome = true
  · rw [if_pos q, if_pos q]; exact r.repl k ry
  · rw [if_neg q, if_neg q]; exact Paired.snoc r ⟨rfl, hb, ry⟩
theorem KT.keeps {H H' : Hp} {kvs : List (List Key × V)} {xs : List (List Key × Addr × Value)} (r : KT H kvs xs) (ht : ∀ b ys, H b = some (.tup ys) → H' b = some (.tup ys)) : KT H' kvs xs :=
  Paired.mapP r fun _ _ z => ⟨z.1, ht _ _ z.2.1, z.2.2⟩

section
variable {P : Program} {w : World} {H : Hp} {h : Heap} {a : Addr}
end

/-- what the dict at a holds at the key y -/
def DGet (H : Hp) (a : Addr) (y : V) (r : Option V) : Prop :=
  (∃ kvs k, Rd H a (.dK kvs) ∧ y = kV k ∧ r = valV kvs k) ∨ ∃ kvs k b, Rd H a (.dT kvs) ∧ y = .ref b ∧ H b = some (.tup (k.map kV)) ∧ r = valV kvs k
/-- the heap behind a[y] = v -/
def DPut (H : Hp) (a : Addr) (y v : V) (H' : Hp) : Prop :=
  (∃ kvs k, H a = some (.dK kvs) ∧ y = kV k ∧ kvs.length < sizeLine ∧ H' = upd H a (.dK (putK kvs k v))) ∨
  ∃ kvs k b, H a = some (.dT kvs) ∧ y = .ref b ∧ H b = some (.tup (k.map kV)) ∧ kvs.length < sizeLine ∧ H' = upd H a (.dT (putK kvs k v))
theorem DGet.k {H : Hp} {a : Addr} {kvs : List (Key × V)} {k : Key} (e : H a = some (.dK kvs)) : DGet H a (kV k) (valV kvs k) := .inl ⟨kvs, k, .inl e, rfl, rfl⟩
theorem DGet.t {H : Hp} {a b : Addr} {kvs : List (List Key × V)} {k : List Key} (e : H a = some (.dT kvs)) (eb : H b = some (.tup (k.map kV))) : DGet H a (.ref b) (valV kvs k) := .inr ⟨kvs, k, b, .inl e, rfl, eb, rfl⟩
theorem DPut.k {H : Hp} {a : Addr} {kvs : List (Key × V)} {k : Key} {v : V} (e : H a = some (.dK kvs)) (hl : kvs.length < sizeLine) : DPut H a (kV k) v (upd H a (.dK (putK kvs k v))) := .inl ⟨kvs, k, e, rfl, hl, rfl⟩
theorem DPut.t {H : Hp} {a b : Addr} {kvs : List (List Key × V)} {k : List Key} {v : V} (e : H a = some (.dT kvs)) (eb : H b = some (.tup (k.map kV))) (hl : kvs.length < sizeLine) :
    DPut H a (.ref b) v (upd H a (.dT (putK kvs k v))) := .inr ⟨kvs, k, b, e, rfl, eb, hl, rfl⟩


section
variable {X : Cx} {pins : List (Addr × Obj)} {σ : St} {H : Hp} {s : Shared} {a : Addr} {y v : V} {u r : Value} {o : Option V} {A : Around} {E : Value → Shared → Prop}

theorem Inv.big (I : Inv X pins σ H s) : sysModules < s.heap.objs.size := by
  have h : mainGlobals < s.heap.objs.size := (I.mod.glob.keeps I.bk).lt
  exact Nat.lt_trans (by decide) h

end

section
variable {X : Cx} {pins : List (Addr × Obj)} {σ : St} {H : Hp} {s : Shared} {a : Addr} {kvs : List (Key × V)} {k : Key} {u : Value} {A : Around} {E : Value → Shared → Prop}
end


/-! ### readings and rules -/
section
variable {X : Cx} {o i e value : Expr} {pos pos' tpos : Pos} {td ty tv : TE}
end


/-! ### displays -/
section
variable {X : Cx} {pos : Pos}
end

def mergeK (kvs more : List (Key × V)) : List (Key × V) := more.foldl (fun acc kv => putK acc kv.1 kv.2) kvs
theorem KV.merge : ∀ {more : List (Key × V)} {rs : List (Key × Value)} {kvs : List (Key × V)} {vs : List (Key × Value)}, KV more rs → KV kvs vs → KV (mergeK kvs more) (merged vs rs) := by
  intro more rs kvs vs r
  unfold KV at r
  induction r generalizing kvs vs with
  | nil => intro q; exact q
  | @cons p q ps qs h t ih =>
    intro r0
    have e : KV (putK kvs p.1 p.2) (stored vs q.1 q.2) := by
      have := r0.put p.1 h.2
      rw [← h.1]; exact this
    exact ih e
/-! ### methods -/
/-- a method call o.m(e) of a built-in, with one argument: what must be seen of the text -/
structure M1 (X : Cx) (o : Expr) (m : Str) (apos : Pos) (e : Expr) (cpos : Pos) : Prop where
  base : attributeBase o m X.env (eval o X.env) = eval o X.env
  few : ((backTo cpos (starEach [e] X.env)).all (fun x => !x.1) && (backToKw cpos (keywordEach [] X.env)).all (fun x => x.1.isSome)
    && decide (([e] : List Expr).length + ([] : List Keyword).length + (if ([] : List Keyword).isEmpty then 0 else 1) < 30)) = true
  line : (apos.endLine == cpos.line) = true
  trees : backTo cpos (starEach [e] X.env) = [(false, eval e X.env)]
structure M2 (X : Cx) (o : Expr) (m : Str) (apos : Pos) (e f : Expr) (cpos : Pos) : Prop where
  base : attributeBase o m X.env (eval o X.env) = eval o X.env
  few : ((backTo cpos (starEach [e, f] X.env)).all (fun x => !x.1) && (backToKw cpos (keywordEach [] X.env)).all (fun x => x.1.isSome)
    && decide (([e, f] : List Expr).length + ([] : List Keyword).length + (if ([] : List Keyword).isEmpty then 0 else 1) < 30)) = true
  line : (apos.endLine == cpos.line) = true
  trees : backTo cpos (starEach [e, f] X.env) = [(false, eval e X.env), (false, eval f X.env)]

section
variable {X : Cx} {pins : List (Addr × Obj)} {σ : St} {H : Hp} {s : Shared} {a : Addr} {y d : V} {u r : Value} {o : Option V} {A : Around} {E : Value → Shared → Prop}
end

section
variable {X : Cx} {o e f : Expr} {apos cpos : Pos} {td ty tx : TE}
end

/-! ### dict(d): a copy -/
section
variable {X : Cx} {pins : List (Addr × Obj)} {σ : St} {H : Hp} {s : Shared} {a : Addr} {kvs : List (Key × V)} {A : Around} {E : Value → Shared → Prop}
end


section
variable {X : Cx} {pins : List (Addr × Obj)} {σ : St} {H : Hp} {s : Shared} {a : Addr} {y : V} {u : Value} {A : Around} {E : Value → Shared → Prop}
end
end L2

namespace HT
open PySem PyProof.Rows

/-- t < u of tuples of ints -/
def lexLt : List Int → List Int → Bool
  | [], [] => false
  | [], _ :: _ => true
  | _ :: _, [] => false
  | x :: xs, y :: ys => if x = y then lexLt xs ys else decide (x < y)
theorem lexLt_cons (x y : Int) (xs ys : List Int) : lexLt (x :: xs) (y :: ys) = if x = y then lexLt xs ys else decide (x < y) := rfl
section
open PySem.SeqAt
open PySem.AutoSeq1 (wpAny_loadPart')
open PySem.MeetsSeq PySem.MeetsSeq2 PySem.MeetsSeq3

end

section
variable {prog : Program} {w : World} {A : Around} {E : Value → Shared → Prop} {s : Shared}

/-! ### t[a:b], not the whole -/
end
end HT

namespace L2
open PySem PySem.Spec PyProof.Rows

/-! ### the parts of a slice -/
abbrev TO := St → Hp → (Option Int → Hp → Prop) → Prop
section
variable {X : Cx} {e : Expr} {te : TE} {lo hi : Option Expr} {tl th : TO} {pos p2 : Pos}

/-- what a slice of a value is, by values: the slice object stands at sl -/
def SlR (X : Cx) (r : V → Option Int → Option Int → Hp → VK → Prop) : Prop :=
  ∀ (pins : List (Addr × Obj)) (s : Shared) (σ : St) (H : Hp) (x : V) (v vl vu : Value) (lo hi : Option Int) (sl : Addr) (Q : VK), Inv X pins σ H s → RelV x v → s.heap.IsSliceOf sl vl vu .none → IsPart vl lo → IsPart vu hi → r x lo hi H Q →
    ∃ T id, typeLookup (.type T) "__getitem__" = pure (some (.builtin id)) ∧ s.TypeIs v T ∧ wpAny (model X.prog X.w) X.A (getItem v (.ref sl)) (EP X pins σ Q) X.xe s
theorem SlR.or {r r' : V → Option Int → Option Int → Hp → VK → Prop} (h : SlR X r) (h' : SlR X r') : SlR X (fun x lo hi H Q => r x lo hi H Q ∨ r' x lo hi H Q) := by
  intro pins s σ H x v vl vu lo hi sl Q I rx hs pl pu q
  rcases q with q | q
  · exact h pins s σ H x v vl vu lo hi sl Q I rx hs pl pu q
  · exact h' pins s σ H x v vl vu lo hi sl Q I rx hs pl pu q
/-! ### t < u, t + u -/
end
end L2

namespace L2
open PySem PySem.Spec PyProof.Rows

/-! ### places -/
/-- the place that an index of any sign means -/
def ixN (n : Nat) (i : Int) : Option Nat := if 0 ≤ i then (if i < n then some i.toNat else none) else if -(n : Int) ≤ i then some (i + n).toNat else none
def atI {α : Type} (xs : List α) (i : Int) : Option α := (ixN xs.length i).bind fun j => xs[j]?
theorem ixN_seq {n : Nat} {i : Int} {j : Nat} (h : ixN n i = some j) : seqIndex? i n = some j ∧ j < n ∧ -(n : Int) ≤ i ∧ i < n := by
  unfold ixN at h
  by_cases h0 : 0 ≤ i
  · rw [if_pos h0] at h
    by_cases h1 : i < n
    · rw [if_pos h1] at h
      have e : i.toNat = j := Option.some.inj h
      exact ⟨by rw [seqIndex_of h0 h1, e], by omega, by omega, h1⟩
    · rw [if_neg h1] at h; cases h
  · rw [if_neg h0] at h
    by_cases h1 : -(n : Int) ≤ i
    · rw [if_pos h1] at h
      have e : (i + n).toNat = j := Option.some.inj h
      exact ⟨by rw [seqIndex_neg (by omega) h1, e], by omega, h1, by omega⟩
    · rw [if_neg h1] at h; cases h
theorem atI_get {α : Type} {xs : List α} {i : Int} {v : α} (h : atI xs i = some v) : ∃ j, seqIndex? i xs.length = some j ∧ xs[j]? = some v ∧ j < xs.length ∧ -(xs.length : Int) ≤ i ∧ i < xs.length := by
  unfold atI at h
  cases e : ixN xs.length i with
  | none => rw [e] at h; cases h
  | some j =>
    rw [e] at h
    obtain ⟨h1, h2, h3, h4⟩ := ixN_seq e
    exact ⟨j, h1, h, h2, h3, h4⟩
theorem atI_nat {α : Type} {xs : List α} {j : Nat} {v : α} (h : xs[j]? = some v) : atI xs (j : Int) = some v := by
  have hj : j < xs.length := (List.getElem?_eq_some_iff.mp h).1
  have e : ixN xs.length (j : Int) = some j := by
    unfold ixN
    rw [if_pos (by omega), if_pos (by omega)]; simp
  unfold atI; rw [e]; exact h
/-! ### what may be subscripted -/
/-- what stands as an index of a plain subscript -/
def PlainIx (b : Expr) : Prop := ∀ o i, subscripted b false o i = operate [o, i] (getItem o i)
/-- a subscript by values -/
def IxR (X : Cx) (r : R2) : Prop :=
  ∀ (value slice : Expr) (pins : List (Addr × Obj)) (s : Shared) (σ : St) (H : Hp) (x y : V) (v u : Value) (Q : VK), Inv X pins σ H s → RelV x v → RelV y u → r x y H Q →
    subscripted slice false v u = operate [v, u] (getItem v u) → wpAny (model X.prog X.w) X.A (subscriptTail value slice v u) (EP X pins σ Q) X.xe s
/-- a call of a builtin's method by values: the receiver, the arguments -/
def MtR (X : Cx) (id : String) (r : V → List V → Hp → VK → Prop) : Prop :=
  ∀ (pins : List (Addr × Obj)) (s : Shared) (σ : St) (H : Hp) (x : V) (xs : List V) (v : Value) (us : List Value) (Q : VK), Inv X pins σ H s → RelV x v → Vals xs us → r x xs H Q →
    wpAny (model X.prog X.w) X.A (call (.builtin id) (v :: us)) (EP X pins σ Q) X.xe s
section
variable {X : Cx} {a b : Expr} {ta tb : TE} {pos : Pos}
theorem IxR.or {r r' : R2} (h : IxR X r) (h' : IxR X r') : IxR X (fun x y H Q => r x y H Q ∨ r' x y H Q) := by
  intro value slice pins s σ H x y v u Q I rx ry q hs
  rcases q with q | q
  · exact h value slice pins s σ H x y v u Q I rx ry q hs
  · exact h' value slice pins s σ H x y v u Q I rx ry q hs
theorem MtR.or {id : String} {r r' : V → List V → Hp → VK → Prop} (h : MtR X id r) (h' : MtR X id r') : MtR X id (fun x xs H Q => r x xs H Q ∨ r' x xs H Q) := by
  intro pins s σ H x xs v us Q I rx rs q
  rcases q with q | q
  · exact h pins s σ H x xs v us Q I rx rs q
  · exact h' pins s σ H x xs v us Q I rx rs q
/-- a[b] -/
theorem pe_ix {r : R2} (hr : IxR X r) (ha : PE X a ta) (hb : PE X b tb) (hs : PlainIx b) : PE X (.Subscript a b pos) (tOp r ta tb) := by
  intro pins s σ H Q I h
  exact Subscript_ (binT ha hb I h fun v u s2 x y H2 I2 rx ry q => hr a b pins s2 σ H2 x y v u Q I2 rx ry q (hs _ _))

def rIxL (K : PySem.W.Frag) : R2 := fun x y H Q => ∃ p xs i v, x = .ref p ∧ y = .int i ∧ SqL K H p xs ∧ atI xs i = some v ∧ Q v H
def rIxT (K : PySem.W.Frag) : R2 := fun x y H Q => ∃ p xs i v, x = .ref p ∧ y = .int i ∧ SqT K H p xs ∧ atI xs i = some v ∧ Q v H
theorem ix_list : IxR X (rIxL X.K) := by
  intro value slice pins s σ H x y v u Q I rx ry h hs
  obtain ⟨p, xs, i, z, rfl, rfl, hq, he, q⟩ := h
  cases rx
  obtain ⟨t, rfl⟩ := ry
  obtain ⟨its, r, pl, hz⟩ := I.list hq
  obtain ⟨j, h1, h2, h3, h4, h5⟩ := atI_get he
  obtain ⟨w, ew, rw'⟩ := r.get h2
  have hl := r.length
  have hn := line63
  have fin : EP X pins σ Q w s := ⟨z, H, I, rw', q⟩
  by_cases h0 : 0 ≤ i
  · have hj : i.toNat = j := by
      rw [seqIndex_of h0 h5] at h1
      exact Option.some.inj h1
    exact item_listR pl.isList h0 (by omega) (by rw [hj]; simpa using ew) fin hs
  · have hj : (i + (its.toArray.size : Int)).toNat = j := by
      rw [seqIndex_neg (by omega) h4] at h1
      rw [List.size_toArray, ← hl]
      exact Option.some.inj h1
    exact subscriptTail_builtinR (x := w) pl.isList.typeIs slot_list_getitem.lookup
      (wpAny_getItem_list_neg (Q := fun r s' => r = w ∧ EP X pins σ Q r s') pl.isList (by omega) (by rw [List.size_toArray] <;> omega) (by omega) (by rw [hj]; simpa using ew) ⟨rfl, fin⟩) hs
theorem ix_tup : IxR X (rIxT X.K) := by
  intro value slice pins s σ H x y v u Q I rx ry h hs
  obtain ⟨p, xs, i, z, rfl, rfl, hq, he, q⟩ := h
  cases rx
  obtain ⟨t, rfl⟩ := ry
  obtain ⟨its, r, pl, hz⟩ := I.tuple hq
  obtain ⟨j, h1, h2, h3, h4, h5⟩ := atI_get he
  obtain ⟨w, ew, rw'⟩ := r.get h2
  have hl := r.length
  have hn := line63
  have fin : EP X pins σ Q w s := ⟨z, H, I, rw', q⟩
  exact subscriptTail_builtinR (x := w) pl.typeIs slot_tuple_getitem.lookup
    (getItem_tuple (j := j) (Q := fun r s' => r = w ∧ EP X pins σ Q r s') pl (by omega) (by omega) (by rw [List.size_toArray, ← hl]; exact h1) (by simpa using ew) ⟨rfl, fin⟩) hs
/-! ### xs[i] = v, any sign -/
/-- the list's object behind a store -/
theorem mapSeq_set (its : List Value) (n j : Nat) (u : Value) : Obj.mapSeq (·.setIfInBounds j u) { cls := .type "list", data := .seq its.toArray n } = { cls := .type "list", data := .seq (its.set j u).toArray n } := by
  simp [Obj.mapSeq]
theorem Inv.lst {pins : List (Addr × Obj)} {σ : St} {H : Hp} {s : Shared} {p : Addr} {xs : List V} (I : Inv X pins σ H s) (h : H p = some (.lst xs)) :
    ∃ (its : List Value) (n : Nat), Vals xs its ∧ s.heap.get? p = some { cls := .type "list", data := .seq its.toArray n } ∧ xs.length ≤ sizeLine := by
  obtain ⟨z, its, n, r, e⟩ := I.hok p _ h
  exact ⟨its, n, r, e, z⟩
/-- the list at p is written by an update of its object -/
theorem Inv.lstUpd {pins : List (Addr × Obj)} {σ : St} {H : Hp} {s : Shared} {p : Addr} {xs ys : List V} {its its' : List Value} {n n' : Nat} {f : Obj → Obj} (I : Inv X pins σ H s) (h : H p = some (.lst xs))
    (ho : s.heap.get? p = some { cls := .type "list", data := .seq its.toArray n }) (hf : f { cls := .type "list", data := .seq its.toArray n } = { cls := .type "list", data := .seq its'.toArray n' }) (r : Vals ys its') (hz : ys.length ≤ sizeLine) (t : Nat) :
    Inv X pins σ (upd H p (.lst ys)) { s with heap := s.heap.update p f, toks := t } := by
  have e : (s.heap.update p f).get? p = some { cls := .type "list", data := .seq its'.toArray n' } := by
    rw [Heap.get?_update_self f ho (by rw [hf] <;> rfl), hf]
  refine I.write (x := p) (e := p) (by rw [h]; trivial) (.inl rfl) (fun b u hb q => (Heap.get?_update_other _ _ (Ne.symm hb)).trans q) ⟨_, e⟩ ?_
  exact ⟨hz, its', n', r, e⟩
def rSetL : V → V → V → Hp → (Hp → Prop) → Prop := fun o i v H Q => ∃ p xs k j, o = .ref p ∧ i = .int k ∧ H p = some (.lst xs) ∧ ixN xs.length k = some j ∧ Q (upd H p (.lst (xs.set j v)))
theorem set_list : PSet X rSetL := by
  intro pins s σ H o i v ov iv u Q I ro ri rv h
  obtain ⟨p, xs, k, j, rfl, rfl, hp, hj, q⟩ := h
  cases ro
  obtain ⟨t, rfl⟩ := ri
  obtain ⟨its, n, r, ho, hz⟩ := I.lst hp
  obtain ⟨h1, h2, h3, h4⟩ := ixN_seq hj
  have hl := r.length
  have hn := line63
  have I' : Inv X pins σ (upd H p (.lst (xs.set j v))) { s with heap := s.heap.update p (Obj.mapSeq (·.setIfInBounds j u)) } :=
    I.lstUpd hp ho (mapSeq_set its n j u) (r.set rv j) (by rw [List.length_set]; exact hz) s.toks
  by_cases h0 : 0 ≤ k
  · have hk : k.toNat = j := by
      rw [seqIndex_of h0 h4] at h1
      exact Option.some.inj h1
    exact PySem.W.ki_setAt ho h0 (by omega) (by rw [List.size_toArray, ← hl]; exact h4) (by rw [hk]; exact ⟨_, I', q⟩)
  · have hk : (k + (its.toArray.size : Int)).toNat = j := by
      rw [seqIndex_neg (by omega) h3] at h1
      rw [List.size_toArray, ← hl]
      exact Option.some.inj h1
    exact PySem.W.ki_setBack ho (by omega) (by rw [List.size_toArray, ← hl]; exact h3) (by omega) (by rw [hk]; exact ⟨_, I', q⟩)

/-! ### slices -/
/-! ### in, not in: flat items -/
/-! ### len, list(x), tuple(x) of any list or tuple that is read -/
theorem call_len_seq : CallR X (.builtin "len") (fun xs H Q => ∃ p ys, xs = [.ref p] ∧ (SqL X.K H p ys ∨ SqT X.K H p ys) ∧ Q (.int ys.length) H) := by
  intro pins s σ H xs us Q I r h
  obtain ⟨p, ys, rfl, hq, q⟩ := h
  obtain ⟨u, rfl, rx⟩ := vals1 r
  cases rx
  have hn := line63
  rcases hq with hq | hq
  · obtain ⟨its, r', pl, hz⟩ := I.list hq
    have hlen := r'.length
    exact Calls.call_len_list pl.isList (by simp only [List.size_toArray] <;> omega) ⟨.int ys.length, H, I.tok _, ⟨s.toks + 1, by rw [List.size_toArray, hlen]⟩, q⟩
  · obtain ⟨its, r', pl, hz⟩ := I.tuple hq
    have hlen := r'.length
    exact len_tuple pl (by simp only [List.size_toArray] <;> omega) ⟨.int ys.length, H, I.tok _, ⟨s.toks + 1, by rw [List.size_toArray, hlen]⟩, q⟩
theorem CallR.or {f : Value} {r r' : List V → Hp → VK → Prop} (h : CallR X f r) (h' : CallR X f r') : CallR X f (fun xs H Q => r xs H Q ∨ r' xs H Q) := by
  intro pins s σ H xs us Q I rs q
  rcases q with q | q
  · exact h pins s σ H xs us Q I rs q
  · exact h' pins s σ H xs us Q I rs q
/-! ### the call of a builtin's method: o.m(..) -/
variable {o e : Expr} {es : List Expr} {to : TE} {t : TA} {name : Str} {apos cpos : Pos} {T id : String} {r : V → List V → Hp → VK → Prop}
/- xs.append(e), list.index on a module's tuple .. are MtR facts of 06m -/
end
end L2

namespace L2
open PySem PySem.Spec PyProof.Rows

/-! ### lists of values -/
theorem Vals.one : ∀ {x : V} {us : List Value}, Vals [x] us → ∃ u, us = [u] ∧ RelV x u
  | _, _, .cons r .nil => ⟨_, rfl, r⟩
theorem Vals.two : ∀ {x y : V} {us : List Value}, Vals [x, y] us → ∃ u v, us = [u, v] ∧ RelV x u ∧ RelV y v
  | _, _, _, .cons r (.cons q .nil) => ⟨_, _, rfl, r, q⟩
theorem Vals.zero : ∀ {us : List Value}, Vals [] us → us = []
  | _, .nil => rfl
theorem Vals.eraseIdx : ∀ {xs : List V} {us : List Value} (i : Nat), Vals xs us → Vals (xs.eraseIdx i) (us.eraseIdx i)
  | _, _, _, .nil => .nil
  | _, _, 0, .cons _ t => t
  | _, _, i + 1, .cons r t => .cons r (Vals.eraseIdx i t)
theorem Vals.reverse {xs : List V} {us : List Value} (h : Vals xs us) : Vals xs.reverse us.reverse := by
  induction h with
  | nil => exact .nil
  | cons r t ih => rw [List.reverse_cons, List.reverse_cons]; exact Vals.append ih (.cons r .nil)
section
variable {X : Cx} {pins : List (Addr × Obj)} {σ : St} {H : Hp} {s : Shared} {l b : Addr} {xs ys zs : List V}

/-! ### the two steps: a tracked list is rewritten, a new list is laid -/
theorem Inv.fresh (I : Inv X pins σ H s) : H s.heap.objs.size = none := I.hok.fresh (Nat.le_refl _)
end

section
variable {X : Cx}

/-! ### methods -/
/-! ### list + list, list += list, list * int -/
/-! ### del xs[i] -/
end

/-! ### xs[a:b] = ys -/
section
variable {prog : Program} {w : World} {A : Around} {E : Value → Shared → Prop} {s : Shared}
set_option maxRecDepth 100000 in
end

section
variable {X : Cx}
end
end L2

namespace Att
open PySem PySem.W PySem.Calls PyProof.Rows

/-! ### the script -/
theorem ints_of_wellAll {P : Params} {h : Heap} : ∀ (ns : List Int) (vs : List Value), WellAll P h vs (ns.map WData.int) → IntsAre vs ns := by
  intro ns
  induction ns with
  | nil =>
    intro vs w
    rw [List.map_nil] at w
    cases w
    exact .nil
  | cons n ns ih =>
    intro vs w
    rw [List.map_cons] at w
    cases w with
    | cons a b =>
      cases a
      exact .cons _ _ (ih _ b)

theorem script_of {l : OpenLaw} {n : Nat} (hn : l.most = some n) {P : Params} {h : Heap} {args : List WData} {vals : List Value}
    (hpre : l.row.toRowW.claim.pre args = true) (hwl : WellAll P h vals args) :
    ∃ a vs ns, vals = [Value.ref a] ∧ args = [WData.list (ns.map WData.int)] ∧ h.get? a = some { cls := .type "list", data := .seq vs.toArray } ∧ IntsAre vs ns ∧ ns.length ≤ n := by
  have hsh : WShape.hasAll [] args [.list .int] = true := (pre_splitW hpre).1
  have hc : l.pre.holds [] { args := args } = true := (pre_splitW hpre).2
  obtain ⟨d, r, rfl, h1, h2⟩ := hasAllW_cons hsh
  obtain rfl := hasAllW_nil h2
  obtain ⟨xs, rfl, h3⟩ := hasW_list h1
  obtain ⟨ns, rfl⟩ := items_int h3
  have hlen : ns.length ≤ n := by
    unfold OpenLaw.pre at hc
    have h4 : (WTm.not (.lt (.lit (.int (n : Int))) (.len (.arg 0)))).holds [] { args := [.list (ns.map .int)] } = true := by
      have h4 := (holds_andW hc).1
      rw [hn] at h4
      exact h4
    have h5 := condW_of h4 (w_not (w_lt w_lit (w_len_list (w_arg rfl))))
    rw [List.length_map] at h5
    refine Nat.le_of_not_lt fun q => ?_
    have q' : (n : Int) < ((ns.length : Nat) : Int) := by omega
    first
      | (rw [decide_eq_true q'] at h5; exact absurd h5 (by decide))
      | (simp at h5; omega)
  cases hwl with
  | cons w1 w2 =>
    cases w2
    cases w1 with
    | list ho hall => exact ⟨_, _, ns, rfl, rfl, ho, ints_of_wellAll ns _ hall, hlen⟩

theorem post_true (l : OpenLaw) (args : List WData) : l.row.toRowW.claim.post args (.bool true) args = true :=
  postW_of (r := l.row.toRowW) (X := (true == true))
    (show WShape.has [] (.bool true) .bool = true by first | rfl | decide | simp [WShape.has, WShape.arms, WShape.armsAll])
    (show (WTm.eq .res (.lit (.bool true))).value [] { args := args, res := some (.bool true), after := args } = some (.bool (true == true)) from w_eq_bool (w_res rfl) w_lit) rfl

/-! ### the attachment: holds_open's last premise (the goal 'hc' behind k_head) from a wpAny of the law's body -/
/-- the same from a codeAny of the CALL (for a layer whose function contracts speak of calls) -/
theorem attach_call {l : OpenLaw} {n : Nat} {q : Program} {loose : List Str} {XP : (Str → Option Value) → Heap → Prop} {YP : World → Heap → Prop} {d : DefRec}
    (hn : l.most = some n) (hdf : d.params.defaults = [])
    (call : ∀ (w : World) (s₀ s₁ : Shared) (mg mb : Str → Option Value) (fa : Addr) (o : Obj) (pm cd doc : Value) (a : Addr) (vs : List Value) (ns : List Int),
      Ground q loose [] XP w s₀ mg mb s₁.heap → YP w s₁.heap →
      s₁.heap.get? fa = some o → o.data = .func (docDef d.name d.params d.body d.scope pm cd doc) → s₁.heap.CodeRec cd d.name → mg d.name = some (.ref fa) →
      s₁.heap.get? a = some { cls := .type "list", data := .seq vs.toArray } → IntsAre vs ns → ns.length ≤ n → s₁.gens = #[] →
      codeAny (model l.prog w) callerA (.call (.ref fa) ⟨[.ref a], []⟩) (fun r s' => r = .ok (.ret (.bool true)) ∧ OldK s₁.heap s'.heap ∧ s'.os = s₁.os ∧ AllBare s'.gens) s₁) :
    WalkO q loose XP YP l.row.toRowW d [] (fun f vs => PySem.call f vs) := by
  intro w s₀ s₁ mg mb G Y fa o pm cd doc dV kV ho hd hcd hD hmg hg args vals as hpre hlay hrd hwl hlo
  obtain rfl : dV = .none := Dflts.none hD hdf
  obtain rfl : kV = .none := Dflts.noKw hD
  obtain ⟨a, vs, ns, rfl, rfl, hobj, hints, hlen⟩ := script_of hn hpre hwl
  refine enter_call (codeAny_mono (call w s₀ s₁ mg mb fa o pm cd doc a vs ns G Y ho (fd_plain hd) hcd hmg hobj hints hlen hg) fun r s' hq => ?_)
  obtain ⟨rfl, h2, h3, h4⟩ := hq
  exact ⟨.inl ⟨.bool true, .bool true, [], rfl, fun _ => rfl, .bool true, post_true l _, fun _ => ⟨List.Pairwise.nil, fun _ hm => (nomatch hm)⟩⟩, h2, h3, h4⟩

/-! ### rules over ANY heap (no ledger) from facts about the written part K: the library's own take a ledger (News) for what they write -/
section
variable {prog : Program} {w : World} {A : Around} {E : Value → Shared → Prop} {s : Shared} {K : Frag}

/-! the whole heap as the ledger: makes every rule that writes through a ledger a rule over any heap -/
def ledger (h : Heap) (L d : Addr) : List (Addr × Obj) := (List.range h.objs.size).filterMap fun a => if a = L ∨ a = d then none else (h.get? a).map fun o => (a, o)
end
end Att

namespace L2
open PySem PySem.Spec PyProof.Rows

theorem vals_ints : ∀ {vs : List Value} {ns : List Int}, IntsAre vs ns → Vals (ns.map V.int) vs
  | _, _, .nil => .nil
  | _, _, .cons n t h => .cons ⟨t, rfl⟩ (vals_ints h)

/-- nothing is tracked but the script, known to the object (or it is an object of the module) -/
def Only (H : Hp) : Prop := ∀ b, H b = none ∨ ∃ o xs, H b = some (.frz o (.lst xs))

/-- THE HEAD: the law's promise, at the heap behind the top. F, the promise of the law's def, may use that base is part of the heap (so K.In base, base.Ns mainGlobals mg stand in Mod) -/
theorem law_call {P : Program} {w : World} {K : PySem.W.Frag} {mg mb : Str → Option Value} {CX : CXT} {k : Nat} {fa a : Addr} {fd : FuncData} {x : Str} {sp : Sp} {s₁ : Shared} {vs : List Value} {ns : List Int}
    (KX : K.In s₁.heap) (hns : s₁.heap.Ns mainGlobals mg) (hb : s₁.heap.Ns builtinsNs mb) (hbb : ∀ x : Str, x ≠ "__name__" → mb x = bootBuiltins x) (hlim : s₁.heap.NoLimit) (hg : s₁.gens = #[])
    (ha : s₁.heap.get? a = some { cls := .type "list", data := .seq vs.toArray }) (hi : IntsAre vs ns) (hl : ns.length ≤ sizeLine) (hr : Room k callerA)
    (F : ∀ base : Heap, K.In base → base.Ns mainGlobals mg → FnOk P w K mg base CX k fa fd [x] sp) (hbind : ∀ (s : Shared) (u : Value), BindsTo s fd ⟨[u], []⟩ [(x, u)])
    (hsp : ∀ H : Hp, Only H → SqL K H a (ns.map V.int) → sp [.ref a] H (fun v _ => v = .bl true) fun _ _ _ => False)
    (hCX : ∀ H e s', CX [] H s₁ (fun _ _ _ => False) e s' → False) :
    codeAny (model P w) callerA (.call (.ref fa) ⟨[.ref a], []⟩) (fun r s' => r = .ok (.ret (.bool true)) ∧ OldK s₁.heap s'.heap ∧ s'.os = s₁.os ∧ AllBare s'.gens) s₁ := by
  have rv := vals_ints hi
  have lenV := hi.length
  -- from an abstract heap in which nothing but the script may be tracked
  have core : ∀ H : Hp, Only H → SqL K H a (ns.map V.int) → HOk P w H s₁.heap → (∀ b, H b ≠ none → b = a) → (H a ≠ none → K.lookup a = none) →
      codeAny (model P w) callerA (.call (.ref fa) ⟨[.ref a], []⟩) (fun r s' => r = .ok (.ret (.bool true)) ∧ OldK s₁.heap s'.heap ∧ s'.os = s₁.os ∧ AllBare s'.gens) s₁ := by
    intro H hO hS hok hA hK
    have base_of : ∀ {b : Addr} {o : Obj}, s₁.heap.get? b = some o → H b = none → (hidT s₁.heap H).get? b = some o := fun e n => hidT_get e n
    have noA : ∀ {b : Addr} {o : Obj} {es : Array DictEntry} {ep : Nat}, s₁.heap.get? b = some o → o.data = .dict es ep → H b = none := fun {b o es ep} e d => by
      cases q : H b with
      | none => rfl
      | some u =>
        have e' : b = a := hA b (by rw [q]; simp)
        subst e'
        rw [ha] at e; cases e
        have d' : Data.seq vs.toArray _ = Data.dict es ep := d
        cases d'
    have nsK : ∀ {b : Addr} {m : Str → Option Value}, s₁.heap.Ns b m → (hidT s₁.heap H).Ns b m := fun {b m} ⟨o, es, ep, e, d, r⟩ => ⟨o, es, ep, base_of e (noA e d), d, r⟩
    have hKb : K.In (hidT s₁.heap H) := fun b o e => base_of (KX b o e) (by
      cases q : H b with
      | none => rfl
      | some u =>
        have e' : b = a := hA b (by rw [q]; simp)
        subst e'
        rw [hK (by rw [q]; simp)] at e; cases e)
    have hM : Mod K mg (hidT s₁.heap H) := ⟨hKb, nsK hns, ⟨mb, nsK hb, hbb⟩, let ⟨mc, h1, h2⟩ := hlim; ⟨mc, nsK h1, h2⟩⟩
    have e0 : Env0 P w K mg (hidT s₁.heap H) callerA [] s₁ H := ⟨rfl, hM, fun b o e => of_hidT e, Nat.le_of_eq (hidT_size _ _), trivial, fun b hb => absurd (show b ∈ ([] : List Addr) from hb) (by simp), hok, .of_eq hg⟩
    refine codeAny_mono ((F _ hKb (nsK hns)).run callerA [] s₁ H ⟨[.ref a], []⟩ [.ref a] [.ref a] _ _ hr e0 (hbind s₁ (.ref a)) (.cons rfl .nil) (hsp H hO hS)) fun r s' h => ?_
    cases r with
    | error e => exact (hCX H e s' h).elim
    | ok fl =>
      cases fl with
      | next => exact False.elim h
      | brk => exact False.elim h
      | cont => exact False.elim h
      | ret u =>
        obtain ⟨v, H', os, bare, un, hok', r', q⟩ := h
        have q' : v = .bl true := q
        subst q'
        obtain rfl : u = Value.bool true := r'
        refine ⟨rfl, OldK.of_keep fun b o e => ?_, os, bare⟩
        cases q : H b with
        | none => exact un.keep b o e q (by intro z; exact absurd (show b ∈ ([] : List Addr) from z) (by simp)) (by simp)
        | some u =>
          rcases hO b with z | ⟨ob, xs, z⟩
          · rw [q] at z; cases z
          · have z2 := un.frzs b ob _ z
            obtain ⟨e1, _⟩ := hok b _ z
            obtain ⟨e2, _⟩ := hok' b _ z2
            rw [e] at e1; cases e1
            exact e2
  cases hk : K.lookup a with
  | some o =>
    -- the script is one of the module's own objects
    have e := KX a o hk
    rw [ha] at e
    cases e
    refine core (fun _ => none) (fun _ => .inl rfl) (.inr ⟨_, vs.toArray, _, hk, rfl, rfl, rfl, by rw [List.size_toArray, lenV]; exact hl, by simpa using rv⟩) (fun b u z => by have z' : (none : Option HO) = some u := z; cases z') (fun b z => absurd rfl z) fun z => absurd rfl z
  | none =>
    refine core (fun b => if b = a then some (.frz { cls := .type "list", data := .seq vs.toArray } (.lst (ns.map V.int))) else none) (fun b => ?_) (.inl (.inr ⟨{ cls := .type "list", data := .seq vs.toArray }, if_pos rfl⟩)) (fun b u z => ?_) (fun b z => ?_) fun _ => hk
    · by_cases hb : b = a
      · exact .inr ⟨_, _, if_pos hb⟩
      · exact .inl (if_neg hb)
    · by_cases hb : b = a
      · have z' := (if_pos hb).symm.trans z
        cases z'
        subst hb
        exact ⟨ha, by rw [List.length_map]; exact hl, vs, _, rv, ha⟩
      · have z' := (if_neg hb).symm.trans z
        cases z'
    · by_cases hb : b = a
      · exact hb
      · exact absurd (if_neg hb) z
end L2

namespace L2
open PySem PySem.Spec PyProof.Rows

abbrev KOf {K : PySem.W.Frag} {h : Heap} (_ : K.In h) : PySem.W.Frag := K

/-- the goal that k_head leaves (case hc), from the law's promise. F gives the function object fd (K's own) once, then the promise over every base -/
theorem walk_of {l : PySem.W.OpenLaw} {n k : Nat} {q : Program} {loose : List Str} {XP : (Str → Option Value) → Heap → Prop} {YP : World → Heap → Prop} {d : DefRec} {K : Params → PySem.W.Frag} {CX : World → CXT} {sp : World → Sp} {x : Str}
    (hn : l.most = some n) (hn2 : n ≤ sizeLine) (hdf : d.params.defaults = []) (hr : Room k callerA)
    (hY : ∀ (w : World) (h : Heap), YP w h → (K w.params).In h)
    (F : ∀ (w : World) (mg : Str → Option Value) (fa : Addr) (h : Heap), (K w.params).In h → h.Ns mainGlobals mg → mg d.name = some (.ref fa) →
      ∃ fd : FuncData, (∀ (s : Shared) (u : Value), BindsTo s fd ⟨[u], []⟩ [(x, u)]) ∧
        ∀ base : Heap, (K w.params).In base → base.Ns mainGlobals mg → FnOk l.prog w (K w.params) mg base (CX w) k fa fd [x] (sp w))
    (hsp : ∀ (w : World) (H : Hp) (a : Addr) (ns : List Int), ns.length ≤ n → Only H → SqL (K w.params) H a (ns.map V.int) → sp w [.ref a] H (fun v _ => v = .bl true) fun _ _ _ => False)
    (hCX : ∀ (w : World) (H : Hp) (s : Shared) (e : Value) (s' : Shared), CX w [] H s (fun _ _ _ => False) e s' → False) :
    PySem.W.WalkO q loose XP YP l.row.toRowW d [] (fun f vs => PySem.call f vs) := by
  refine Att.attach_call hn hdf fun w s₀ s₁ mg mb fa o pm cd doc a vs ns G Y ho hd hcd hmg hobj hints hlen hg => ?_
  have KX := hY w _ Y
  obtain ⟨fd, hb, hF⟩ := F w mg fa _ KX G.T.g hmg
  exact law_call KX G.T.g G.T.b G.T.builtins G.T.nolimit hg hobj hints (Nat.le_trans hlen hn2) hr hF hb (fun H hO hS => hsp w H a ns hlen hO hS) fun H e s' => hCX w H s₁ e s'
end L2

/- THE LAST THEOREM (shape; LID, My.* are yours):
   My.Adr: a structure of the addresses that your layer names (classes, functions); My.Txt K t: a structure (Prop) of the equations over K;
   My.txt_mk : {K} {implicit addresses ..} (e1 : nsIn K mainGlobals "law" = some (some (.ref f))) (e2 : K.lookup f = some ⟨oc, od, .func (fnOf "law" "law" params body scope dV kV doc pm an cdv ct), sl⟩) (e3 : codeIn K cdv "law" = true) .. : ∃ t, My.Txt K t

set_option maxRecDepth 100000 in
set_option maxHeartbeats 0 in
theorem PySem.Challenge.cw_LID_holds : PySem.Challenge.rw_LID.Holds := by
  w_on; o_law; k_head; (case hw => w_witness2)
  k_fill
  refine L2.walk_of (l := PySem.Challenge.rw_LID) (n := 63) (k := 40) (x := "script") (CX := fun w => ..) (sp := fun _ => My.sp_law) rfl (by decide) rfl ⟨rfl, by decide, by decide⟩ (fun w h Y => PySem.W.kIn_of Y) ?F ?S ?C
  case F =>
    intro w mg fa h KX G hmg
    have T : ∃ t, My.Txt (L2.KOf KX) t := by
      dsimp only [L2.KOf]                          -- K must stand as «<heap const> w.params» for k_is
      refine' My.txt_mk ?e1 ?e2 ?e3 ..
      (case e1 => PySem.W.k_is)                    -- in the order: a name -> its address -> its object -> its parts
      (case e2 => PySem.W.k_is)
      ..
    obtain ⟨t, T⟩ := T
    have e0 := hmg.symm.trans (PySem.W.mg_of KX G T.law)
    cases e0                                       -- fa is the law's own address
    exact ⟨_, fun s u => .of_eq rfl, fun base kb nb => My.law_fn T kb nb⟩     -- if «.of_eq rfl» comes too early: refine' ⟨_, ?b, fun base kb nb => My.law_fn T kb nb⟩; exact fun s u => .of_eq rfl
  case S => exact fun w H a ns hl hO hS => ..
  case C => exact ..
(the tactic k_is has no namespace: write k_is) -/

/-! SHORT WORDS over the layer: a def of the text, its body, what a loop and a test want. -/
namespace L2
open PySem PySem.Spec PyProof.Rows

/-! ### the text by places -/
def defArgs (s : Stmt) : Arguments := match s with
  | .FunctionDef _ a _ _ _ _ _ _ _ _ => a
  | _ => { posonlyargs := [], args := [], vararg := none, kwonlyargs := [], kw_defaults := [], kwarg := none, defaults := [] }
def defBody (s : Stmt) : List Stmt := match s with
  | .FunctionDef _ _ b _ _ _ _ _ _ _ => b
  | _ => []
def defScope (s : Stmt) : Scope := match s with
  | .FunctionDef _ _ _ _ _ _ sc _ _ _ => sc
  | _ => { kind := .function, names := [], isGenerator := false, isCoroutine := false }

/-! ### no exception leaves a def -/
abbrev CX0 : CXT := fun _ _ _ _ _ _ => False
abbrev E0 : XK := fun _ _ _ => False
theorem pass0 {X : Cx} : Passes CX0 X E0 := fun _ _ _ _ _ _ _ h => h.elim

/-! ### a def (or method) of the text as it stands behind the top -/
structure Fun (K : PySem.W.Frag) (x qual : Str) (st : Stmt) (f : Addr) (fd : FuncData) : Prop where
  ex : ∃ (oc : Value) (od : Option Addr) (kV doc pm : Value) (an : Option Addr) (cdv ct : Value) (osl : Array (Option Value)),
    fd = PySem.W.fnOf x qual (defArgs st) (defBody st) (defScope st) .none kV doc pm an cdv ct ∧ K.lookup f = some ⟨oc, od, .func fd, osl⟩ ∧ PySem.W.codeIn K cdv qual = true
  kp : PySem.W.keepIn K (.ref f) = true
section
variable {P : Program} {w : World} {K : PySem.W.Frag} {mg : Str → Option Value} {base : Heap}
/-- THE RULE for a def: its body as a term of rules, and the reading of that term -/
theorem Fun.ok {x qual : Str} {st : Stmt} {f : Addr} {fd : FuncData} {N ps : List Str} {k : Nat} {sp : Sp} (F : Fun K x qual st f fd) (S : FnScope N ps (defScope st)) (len : ∀ vs H Q E, sp vs H Q E → vs.length = ps.length)
    (hbody : ∀ (cdv : Value) (A : Around) (outer : List Env) (s : Shared) (H : Hp) (vs : List V) (Q : VK) (E : XK), Room k (A.deeper (envOfC qual (defScope st) s.heap.objs.size f cdv)) → sp vs H Q E →
      ∃ t, PSs (cxOf CX0 P w K mg base N qual (defScope st) f cdv A outer s H E).nox (defBody st) t ∧ t { nx := fun _ H' => Q .non H', rt := Q } (start N vs) H) : FnOk P w K mg base CX0 (k + 1) f fd ps sp := by
  obtain ⟨oc, od, kV, doc, pm, an, cdv, ct, osl, rfl, lk, hcd⟩ := F.ex
  refine fn_of lk hcd S len fun A outer s H vs Q E hr hsp => ?_
  obtain ⟨t, h, q⟩ := hbody cdv A outer s H vs Q E hr hsp
  exact ⟨t, h.nox, q⟩
/-- how its arguments bind (no defaults): h is «fun _ _ _ _ _ _ us hl => match us, hl with | [_, _], _ => rfl», one _ a parameter -/
theorem Fun.binds {x qual : Str} {st : Stmt} {f : Addr} {fd : FuncData} {ps : List Str} (F : Fun K x qual st f fd)
    (h : ∀ (kV doc pm : Value) (an : Option Addr) (cdv ct : Value) (us : List Value), us.length = ps.length → bindArgs (PySem.W.fnOf x qual (defArgs st) (defBody st) (defScope st) .none kV doc pm an cdv ct) ⟨us, []⟩ = pure (ps.zip us)) : Binds K fd ps [] := by
  obtain ⟨oc, od, kV, doc, pm, an, cdv, ct, osl, rfl, lk, hcd⟩ := F.ex
  exact .all (h kV doc pm an cdv ct)
theorem fun_mk {x qual : Str} {st : Stmt} {f : Addr} {oc : Value} {od an : Option Addr} {osl : Array (Option Value)} {kV doc pm cdv ct : Value} (l : K.lookup f = some ⟨oc, od, .func (PySem.W.fnOf x qual (defArgs st) (defBody st) (defScope st) .none kV doc pm an cdv ct), osl⟩)
    (c : PySem.W.codeIn K cdv qual = true) (k : PySem.W.keepIn K (.ref f) = true) : Fun K x qual st f (PySem.W.fnOf x qual (defArgs st) (defBody st) (defScope st) .none kV doc pm an cdv ct) := ⟨⟨oc, od, kV, doc, pm, an, cdv, ct, osl, rfl, l, c⟩, k⟩
end
/-! ### expressions in short: the name that stands in the i-th slot -/
section
variable {X : Cx}
theorem pv (i : Nat) {x : Str} {pos : Pos} (hN : X.N[i]? = some x := by rfl) (hv : Vis X.env.scope x := by first | exact Or.inl rfl | exact Or.inr (Or.inl rfl) | exact Or.inr (Or.inr rfl)) (hd : (x == ("__debug__" : Str)) = false := by decide)
    (hcd : (x == ("__classdict__" : Str)) = false := by decide) : PE X (.Name x pos) (tVar i) := pe_var hN hv hd hcd
end

/-! ### tests -/
theorem iteF {A B : Prop} (h : B) : if false = true then A else B := by
  rw [if_neg Bool.false_ne_true]
  exact h
theorem iteT {A B : Prop} (h : A) : if true = true then A else B := by
  rw [if_pos rfl]
  exact h
theorem ite2 {c A B : Prop} [Decidable c] (h1 : c → A) (h2 : ¬ c → B) : if c then A else B := by
  by_cases h : c
  · rw [if_pos h]
    exact h1 h
  · rw [if_neg h]
    exact h2 h
/-! ### heaps -/
/-- all that was tracked is as it was -/
def Same (H H' : Hp) : Prop := ∀ b o, H b = some o → H' b = some o
theorem Same.refl (H : Hp) : Same H H := fun _ _ h => h
theorem Same.trans {H H1 H2 : Hp} (a : Same H H1) (b : Same H1 H2) : Same H H2 := fun c o h => b c o (a c o h)
theorem Same.free {H H' : Hp} (e : Same H H') {l : Addr} (h : H' l = Option.none) : H l = Option.none := by
  cases q : H l with
  | none => rfl
  | some o =>
    rw [e l o q] at h
    cases h
theorem Same.seq {K : PySem.W.Frag} {H H' : Hp} {a : Addr} {xs : List V} (e : Same H H') (h : SqL K H a xs) : SqL K H' a xs := by
  rcases h with (h | ⟨o, h⟩) | h
  · exact .inl (.inl (e _ _ h))
  · exact .inl (.inr ⟨o, e _ _ h⟩)
  · exact .inr h

/-! ### a dict's pairs: keys that differ -/
section
variable {κ : Type} [DecidableEq κ]
end
end L2


-- END OF LAYER
set_option maxHeartbeats 4000000
/-! A comprehension over the hand layer: its block as a context of its own. -/
namespace L2
open PySem PySem.Spec PyProof.Rows

/-! ### the loop -/
/-! ### the block as a context -/
/-- the block's scope within that of the def; sel: which slot of the def a name of the block is -/
structure BlkOk (osc : Scope) (N : List Str) (sc : Scope) (N' : List Str) (sel : List (Option Nat)) : Prop where
  kind : sc.kind = .function
  nocell : ∀ y ∈ sc.names, y.2 ≠ .cell
  names : ∀ y ∈ sc.names, y.2 = .local → sc.names.lookup y.1 = some .local
  free : ∀ y ∈ sc.names, y.2 = .free → osc.names.lookup y.1 = some .cell ∨ osc.names.lookup y.1 = some .free
  len : sel.length = N'.length
  sel : ∀ p ∈ sel.zip N', ∀ i ∈ p.1, N[i]? = some p.2 ∧ sc.names.lookup p.2 = some .free
/-- what is known of the block's cells -/
structure Clo (env : Env) (sc : Scope) (cl : List (Str × Addr)) : Prop where
  run : closureFor sc env = pure cl
  old : ∀ x c, cl.lookup x = some c → env.cells.lookup x = some c ∧ (x, NameKind.free) ∈ sc.names
  has : ∀ y ∈ sc.names, y.2 = .free → ∃ c, cl.lookup y.1 = some c
/-! ### into the block, and out of it -/
section
variable {X : Cx} {osc : Scope} {N : List Str} {sc : Scope} {N' : List Str} {sel : List (Option Nat)} {cl : List (Str × Addr)} {pins : List (Addr × Obj)} {σ : St} {H : Hp} {s : Shared} {fp : List Addr}
end
end L2

namespace L2
open PySem PySem.Spec PyProof.Rows
section
variable {X : Cx}
/-! ### what a turn adds -/
end
section
variable {X : Cx} {osc : Scope} {N : List Str} {sc : Scope} {N' : List Str} {sel : List (Option Nat)} {pos : Pos} {elt kx vx tg iter : Expr} {ifs : List Expr} {wi : TI} {g : TG} {tt : TT} {te tk tv : TE}
end
end L2

namespace L2
open PySem PySem.Spec PyProof.Rows
section
variable {X : Cx} {osc : Scope} {N : List Str} {sc : Scope} {N' : List Str} {sel : List (Option Nat)} {pos : Pos} {elt kx vx tg iter : Expr} {ifs : List Expr} {wi : TI} {g : TG} {tt : TT} {te tk tv : TE}

/-! ### dicts -/
end
end L2

namespace L2
open PySem PySem.Spec PyProof.Rows

/-! ### a value read as data: numbers, texts, lists and tuples of such -/
mutual
inductive RD (K : PySem.W.Frag) (H : Hp) : V → PyData → Prop where
  | non : RD K H .non .none
  | bl (b : Bool) : RD K H (.bl b) (.bool b)
  | int (i : Int) : RD K H (.int i) (.int i)
  | str (x : Str) : RD K H (.str x) (.str x)
  | lst {a : Addr} {xs : List V} {ds : List PyData} : SqL K H a xs → RDs K H xs ds → RD K H (.ref a) (.list ds)
  | tup {a : Addr} {xs : List V} {ds : List PyData} : SqT K H a xs → RDs K H xs ds → RD K H (.ref a) (.tuple ds)
inductive RDs (K : PySem.W.Frag) (H : Hp) : List V → List PyData → Prop where
  | nil : RDs K H [] []
  | cons {x : V} {xs : List V} {d : PyData} {ds : List PyData} : RD K H x d → RDs K H xs ds → RDs K H (x :: xs) (d :: ds)
end
section
variable {X : Cx} {pins : List (Addr × Obj)} {σ : St} {H : Hp} {s : Shared}
mutual
theorem Inv.reads (I : Inv X pins σ H s) : ∀ {v : V} {d : PyData} {u : Value}, RD X.K H v d → RelV v u → ∃ as, Reads s.heap u d as
  | _, _, _, .non, r => by cases (show _ = Value.none from r); exact ⟨_, .none⟩
  | _, _, _, .bl b, r => by cases (show _ = Value.bool b from r); exact ⟨_, .bool b⟩
  | _, _, _, .int i, r => by obtain ⟨t, rfl⟩ := r; exact ⟨_, .int i t⟩
  | _, _, _, .str x, r => by obtain ⟨t, rfl⟩ := r; exact ⟨_, .str x t⟩
  | _, _, _, .lst (a := a) hq hs, r => by
    cases (show _ = Value.ref a from r)
    obtain ⟨its, rv, p, hz⟩ := I.list hq
    obtain ⟨as, ra⟩ := I.readsAll hs rv
    obtain ⟨o, ho, hc, n, hd⟩ := p.isList
    exact ⟨_, .list ho hc hd (by simpa using ra)⟩
  | _, _, _, .tup (a := a) hq hs, r => by
    cases (show _ = Value.ref a from r)
    obtain ⟨its, rv, p, hz⟩ := I.tuple hq
    obtain ⟨as, ra⟩ := I.readsAll hs rv
    obtain ⟨o, ho, hc, n, hd⟩ := p
    exact ⟨_, .tuple ho hc hd (by simpa using ra)⟩
theorem Inv.readsAll (I : Inv X pins σ H s) : ∀ {vs : List V} {ds : List PyData} {us : List Value}, RDs X.K H vs ds → Vals vs us → ∃ as, ReadsAll s.heap us ds as
  | _, _, _, .nil, r => by cases r; exact ⟨_, .nil⟩
  | _, _, _, .cons h t, .cons r rr => by
    obtain ⟨as, h1⟩ := I.reads h r
    obtain ⟨bs, h2⟩ := I.readsAll t rr
    exact ⟨_, .cons h1 h2⟩
end
end
theorem RDs.ints {K : PySem.W.Frag} {H : Hp} : ∀ (ns : List Int), RDs K H (ns.map V.int) (ns.map PyData.int)
  | [] => .nil
  | n :: r => .cons (.int n) (RDs.ints r)
mutual
theorem RD.mono {K : PySem.W.Frag} {H H' : Hp} (hl : ∀ a xs, SqL K H a xs → SqL K H' a xs) (ht : ∀ a xs, SqT K H a xs → SqT K H' a xs) : ∀ {v : V} {d : PyData}, RD K H v d → RD K H' v d
  | _, _, .non => .non
  | _, _, .bl b => .bl b
  | _, _, .int i => .int i
  | _, _, .str x => .str x
  | _, _, .lst h t => .lst (hl _ _ h) (RDs.mono hl ht t)
  | _, _, .tup h t => .tup (ht _ _ h) (RDs.mono hl ht t)
theorem RDs.mono {K : PySem.W.Frag} {H H' : Hp} (hl : ∀ a xs, SqL K H a xs → SqL K H' a xs) (ht : ∀ a xs, SqT K H a xs → SqT K H' a xs) : ∀ {v : List V} {d : List PyData}, RDs K H v d → RDs K H' v d
  | _, _, .nil => .nil
  | _, _, .cons h t => .cons (RD.mono hl ht h) (RDs.mono hl ht t)
end
section
variable {X : Cx}
/-! ### data made of ints -/
/-! ### (a, b, ..) = a list of that length -/
end
section
variable {prog : Program} {w : World} {A : Around} {E : Value → Shared → Prop} {s : Shared}
end
section
variable {X : Cx} {pos : Pos}
/-! ### // by a divisor of some thousand bits -/
def CDivB (i j : Int) : Prop := 0 < j ∧ j.natAbs.log2 < 9000
theorem op_fdivB : OpR X (binaryOp .FloorDiv) (rI CDivB fun i j => .int (i / j)) := opI fun i j _ _ _ _ _ hc q => by
  have e : i.fdiv j = i / j := Int.fdiv_eq_ediv_of_nonneg i (Int.le_of_lt hc.1)
  rw [← e] at q
  exact floordiv_int (by have := hc.1; omega) q (.inl (PyProof.noPylong_of_log2 hc.2))
/-! ### all of a list of bools -/
end
end L2
namespace L2
open PySem PySem.Spec PyProof.Rows
section
variable {X : Cx}
theorem call_isi : CallR X (.builtin "isinstance") (fun xs H Q => ∃ x T t b, xs = [x, .ty T] ∧ TyOf X.K H x t ∧ PySem.W.kitOne X.K t (.type T) = some b ∧ Q (.bl b) H) := by
  intro pins s σ H xs us Q I r h
  obtain ⟨x, T, t, b, rfl, ty, e, q⟩ := h
  obtain ⟨u, w', rfl, ru, rw'⟩ := vals2 r
  cases (show w' = Value.type T from rw')
  exact isinst_ok I ru ty e fun tk => ⟨.bl b, H, I.tok tk, rfl, q⟩
theorem kit_same (K : PySem.W.Frag) (T : String) : PySem.W.kitOne K (.type T) (.type T) = some true := by
  unfold PySem.W.kitOne; rw [if_pos (by simp)]
end
end L2

/-! More rules of the layer: tuples of ints by <=, list.index, min by a key. -/
namespace HT
open PySem PyProof.Rows
section
open PySem.SeqAt
open PySem.AutoSeq1 (wpAny_loadPart')
open PySem.MeetsSeq PySem.MeetsSeq2 PySem.MeetsSeq3
end
section
variable {prog : Program} {w : World} {A : Around} {E : Value → Shared → Prop} {s : Shared}
end
end HT
namespace L2
open PySem PySem.Spec PyProof.Rows
section
variable {X : Cx}
end
end L2

namespace L2
open PySem PySem.Spec PyProof.Rows
/-! ### list.index over data -/
section
variable {X : Cx}
end

/-! ### min over a list by a key that is a tuple of ints -/
section
variable {X : Cx} {k : Nat} {f : Addr} {fd : FuncData} {ps : List Str} {sp : Sp} {pins : List (Addr × Obj)} {σ : St}
theorem Inv.moved {H : Hp} {s : Shared} {b : Addr} {h' : Heap} {t' : Nat} (I : Inv X pins σ H s) (fb : FpOk X pins H b) (hk : ∀ c o, c ∉ [b] → s.heap.get? c = some o → h'.get? c = some o) : Inv X pins σ H { s with heap := h', toks := t' } :=
  I.turned (fun c o hc e => hk c o (fun z => hc (List.mem_singleton.mp z)) e) fb.1 fb.2.1 fb.2.2.2.1 fb.2.2.2.2.1 fb.2.2.2.2.2
/-- a record of the built-in's own stands as it does -/
theorem FpOk.again {H H' : Hp} {b : Addr} (fb : FpOk X pins H b) (hn : H' b = none) : FpOk X pins H' b := ⟨hn, fb.2⟩
/-- where the walk for the least stands -/
structure MK (X : Cx) (pins : List (Addr × Obj)) (σ : St) (H : Hp) (s : Shared) (it st l : Addr) (j : Nat) (vb kb : Value) : Prop where
  inv : Inv X pins σ H s
  fi : FpOk X pins H it
  fs : FpOk X pins H st
  ne : st ≠ it
  iter : s.heap.IsListIter it l j
  hold : ∃ c, s.heap.get? st = some (seqObj "list" #[vb, kb] c)
def Least (κ : Nat → List Int) (n i : Nat) : Prop := ∀ j, j < n → HT.lexLt (κ j) (κ i) = false ∧ (j < i → HT.lexLt (κ i) (κ j) = true)
end
end L2
namespace HT
theorem lexLt_irrefl : ∀ a : List Int, lexLt a a = false
  | [] => rfl
  | x :: r => by rw [lexLt_cons, if_pos rfl]; exact lexLt_irrefl r
theorem lexLt_trans : ∀ {a b c : List Int}, lexLt a b = true → lexLt b c = true → lexLt a c = true
  | [], [], _, h, _ => by cases h
  | [], _ :: _, [], _, h => by cases h
  | [], _ :: _, _ :: _, _, _ => rfl
  | _ :: _, [], _, h, _ => by cases h
  | _ :: _, _ :: _, [], _, h => by cases h
  | x :: a, y :: b, z :: c, h, g => by
    rw [lexLt_cons] at h g ⊢
    by_cases e1 : x = y
    · subst e1
      rw [if_pos rfl] at h
      by_cases e2 : x = z
      · subst e2; rw [if_pos rfl] at g ⊢; exact lexLt_trans h g
      · rw [if_neg e2] at g ⊢; exact g
    · rw [if_neg e1] at h
      have h' : x < y := by simpa using h
      by_cases e2 : y = z
      · subst e2; rw [if_neg e1]; exact h
      · rw [if_neg e2] at g
        have g' : y < z := by simpa using g
        rw [if_neg (by omega)]
        exact decide_eq_true (by omega)
theorem lexLt_total : ∀ {a b : List Int}, lexLt a b = false → lexLt b a = false → a = b
  | [], [], _, _ => rfl
  | [], _ :: _, h, _ => by cases h
  | _ :: _, [], _, h => by cases h
  | x :: a, y :: b, h, g => by
    rw [lexLt_cons] at h g
    by_cases e : x = y
    · subst e
      rw [if_pos rfl] at h g
      rw [lexLt_total h g]
    · rw [if_neg e] at h
      rw [if_neg (Ne.symm e)] at g
      have h' : ¬ x < y := by simpa using h
      have g' : ¬ y < x := by simpa using g
      omega
theorem lexLt_asym {a b : List Int} (h : lexLt a b = true) : lexLt b a = false := by
  cases e : lexLt b a with
  | false => rfl
  | true => have := lexLt_trans h e; rw [lexLt_irrefl] at this; cases this
end HT

namespace L2
open PySem PySem.Spec PyProof.Rows
section
variable {X : Cx} {k : Nat} {f : Addr} {fd : FuncData} {ps : List Str} {sp : Sp} {pins : List (Addr × Obj)} {σ : St} {H0 : Hp} {Q : VK} {l it st : Addr} {xs : List V} {κ : Nat → List Int}
theorem MK.set {H : Hp} {s : Shared} {j : Nat} {vb kb v kv : Value} (M : MK X pins σ H s it st l j vb kb) : MK X pins σ H { s with heap := s.heap.update st (Obj.mapSeq fun _ => #[v, kv]) } it st l j v kv := by
  obtain ⟨c, hc⟩ := M.hold
  have sb := Heap.SameBut.update s.heap st (Obj.mapSeq fun _ => #[v, kv])
  obtain ⟨oi, hoi, ci, di⟩ := id M.iter
  exact ⟨M.inv.moved (t' := s.toks) M.fs (fun b o hb e => (sb.2 b fun z => hb (by simp [z])).trans e), M.fi, M.fs, M.ne, ⟨oi, (sb.2 it M.ne.symm).trans hoi, ci, di⟩, _, get?_update_seq hc fun _ => #[v, kv]⟩
theorem Least.next {n i : Nat} (h : Least κ n i) (e : HT.lexLt (κ n) (κ i) = false) (hi : i < n) : Least κ (n + 1) i := fun j hj => by
  by_cases z : j = n
  · subst z; exact ⟨e, fun q => absurd q (by lia)⟩
  · exact h j (by lia)
theorem Least.take {n i : Nat} (h : Least κ n i) (e : HT.lexLt (κ n) (κ i) = true) (hi : i < n) : Least κ (n + 1) n := fun j hj => by
  by_cases z : j = n
  · subst z; exact ⟨HT.lexLt_irrefl _, fun q => absurd q (by lia)⟩
  · have g := (h j (by lia)).1
    have t : HT.lexLt (κ n) (κ j) = true := by
      cases q : HT.lexLt (κ i) (κ j) with
      | true => exact HT.lexLt_trans e q
      | false => rw [← HT.lexLt_total q g]; exact e
    exact ⟨HT.lexLt_asym t, fun _ => t⟩

end
end L2

namespace L2
open PySem PySem.Spec PyProof.Rows
section
variable {X : Cx} {k : Nat} {f : Addr} {fd : FuncData} {ps : List Str} {sp : Sp} {pins : List (Addr × Obj)} {σ : St} {H0 : Hp} {Q : VK} {l it st : Addr} {xs : List V} {κ : Nat → List Int}

/-- ahead of the first -/
structure MK0 (X : Cx) (pins : List (Addr × Obj)) (σ : St) (H : Hp) (s : Shared) (it st l : Addr) (j : Nat) : Prop where
  inv : Inv X pins σ H s
  fi : FpOk X pins H it
  fs : FpOk X pins H st
  ne : st ≠ it
  iter : s.heap.IsListIter it l j
  hold : ∃ c, s.heap.get? st = some (seqObj "list" #[] c)
theorem MK0.set {H : Hp} {s : Shared} {j : Nat} {v kv : Value} (M : MK0 X pins σ H s it st l j) : MK X pins σ H { s with heap := s.heap.update st (Obj.mapSeq fun _ => #[v, kv]) } it st l j v kv := by
  obtain ⟨c, hc⟩ := M.hold
  have sb := Heap.SameBut.update s.heap st (Obj.mapSeq fun _ => #[v, kv])
  obtain ⟨oi, hoi, ci, di⟩ := id M.iter
  exact ⟨M.inv.moved (t' := s.toks) M.fs (fun b o hb e => (sb.2 b fun z => hb (by simp [z])).trans e), M.fi, M.fs, M.ne, ⟨oi, (sb.2 it M.ne.symm).trans hoi, ci, di⟩, _, get?_update_seq hc fun _ => #[v, kv]⟩

end
end L2

/-! sorted(list, key = a def), fewer than 64 items: what comes is a permutation. -/
namespace RK
open PySem PySem.W PyProof.Rows
variable {n : Nat} {ans : Nat → Nat → Bool}
def Pm (n : Nat) (p : Array Nat) : Prop := p.Perm (List.toArray (List.range n))
theorem Pm.lt {p : Array Nat} (h : Pm n p) (hn : 0 < n) (i : Nat) : p.getD i 0 < n := by
  by_cases hi : i < p.size
  · have e : p.getD i 0 = p[i] := by simp [Array.getD, hi]
    rw [e]
    have hm : p[i] ∈ List.toArray (List.range n) := h.mem_iff.mp (Array.getElem_mem hi)
    simpa using hm
  · have e : p.getD i 0 = 0 := by simp [Array.getD, hi]
    rw [e]; exact hn
/-! ### keys that are tuples of ints and truths, of one form -/
inductive Col : Value → Value → Int → Int → Prop where
  | int (a : Int) (t : Tok) (b : Int) (u : Tok) : Col (.int a t) (.int b u) a b
  | bl (p q : Bool) : Col (.bool p) (.bool q) (b2i p) (b2i q)
inductive Cols : List Value → List Value → List Int → List Int → Prop where
  | nil : Cols [] [] [] []
  | cons {u v : Value} {us vs : List Value} {a b : Int} {as bs : List Int} : Col u v a b → Cols us vs as bs → Cols (u :: us) (v :: vs) (a :: as) (b :: bs)
section
variable {prog : Program} {w : World} {A : Around} {s : Shared} {Q : Bool → Shared → Prop}
end
end RK

namespace L2
open PySem PySem.Spec PyProof.Rows
section
variable {X : Cx} {k : Nat} {f : Addr} {fd : FuncData} {ps : List Str} {sp : Sp} {pins : List (Addr × Obj)} {σ : St} {H0 : Hp} {Q : VK}
/-- a key's part -/
inductive VCol : V → V → Int → Int → Prop where
  | int (a b : Int) : VCol (.int a) (.int b) a b
  | bl (p q : Bool) : VCol (.bl p) (.bl q) (b2i p) (b2i q)
inductive VCols : List V → List V → List Int → List Int → Prop where
  | nil : VCols [] [] [] []
  | cons {x y : V} {xs ys : List V} {a b : Int} {as bs : List Int} : VCol x y a b → VCols xs ys as bs → VCols (x :: xs) (y :: ys) (a :: as) (b :: bs)
theorem VCols.vals : ∀ {xs ys : List V} {as bs : List Int} {us vs : List Value}, VCols xs ys as bs → Vals xs us → Vals ys vs → RK.Cols us vs as bs
  | _, _, _, _, _, _, .nil, .nil, .nil => .nil
  | _, _, _, _, _, _, .cons c r, .cons h t, .cons g q => .cons (by
      cases c with
      | int a b => obtain ⟨t, rfl⟩ := h; obtain ⟨u, rfl⟩ := g; exact .int _ _ _ _
      | bl p q => cases h; cases g; exact .bl _ _) (r.vals t q)
/-- the sort's own records: D the list, st the keys -/
structure SK (X : Cx) (pins : List (Addr × Obj)) (σ : St) (H : Hp) (s : Shared) (D st : Addr) (e : Nat) (κV : Nat → List V) (ks : List Addr) : Prop where
  inv : Inv X pins σ H s
  fd : FpOk X pins H D
  fs : FpOk X pins H st
  ne : st ≠ D
  hd : s.heap.get? D = some (seqObj "list" #[] e)
  hs : ∃ c, s.heap.get? st = some (seqObj "list" (ks.map Value.ref).toArray c)
  hk : ∀ i a, ks[i]? = some a → SqT X.K H a (κV i)
end
end L2

namespace L2
open PySem PySem.Spec PyProof.Rows
section
variable {X : Cx} {pins : List (Addr × Obj)} {σ : St} {H : Hp} {s : Shared} {D st : Addr} {e : Nat} {κV : Nat → List V} {ks : List Addr} {E : Value → Shared → Prop}
end
end L2

namespace L2
open PySem PySem.Spec PyProof.Rows
section
variable {X : Cx} {k : Nat} {f : Addr} {fd : FuncData} {ps : List Str} {sp : Sp} {pins : List (Addr × Obj)} {σ : St} {H0 H : Hp} {s : Shared} {D st l : Addr} {e : Nat} {κV : Nat → List V} {ks : List Addr} {E : Value → Shared → Prop} {G : Array Nat → Prop} {xs : List V} {vs : List Value} {Q : VK}
end
end L2

namespace L2
open PySem PySem.Spec PyProof.Rows
section
variable {X : Cx} {k : Nat} {f : Addr} {fd : FuncData} {ps : List Str} {sp : Sp} {pins : List (Addr × Obj)} {σ : St} {H0 : Hp} {s : Shared} {l : Addr} {κV : Nat → List V} {G : Array Nat → Prop} {xs : List V} {Q : VK}
end
/-! ### the rules: min(e, key = f), min(e), sorted(e, key = f) -/
section
variable {X : Cx} {x : Str} {p pos kp kpos : Pos} {e : Expr} {te : TE} {k : Nat} {f : Addr} {fd : FuncData} {ps : List Str} {sp : Sp} {fn : Str}
end
end L2

/-! The sort of a list of any length: the search by leaps. -/
namespace TS
open PySem PyProof.Rows
def gallop' : Bool → Keyed → Array Keyed → Nat → Nat → Nat → StateT SortSt Sem (Option Nat) := sortPriv% PySem.Builtin.gallop
def mergeLo' : Array Keyed → Array Keyed → StateT SortSt Sem (Array Keyed) := sortPriv% PySem.Builtin.mergeLo
def mergeHi' : Array Keyed → Array Keyed → StateT SortSt Sem (Array Keyed) := sortPriv% PySem.Builtin.mergeHi
/-- the keys of S are compared by L, whatever the state; L is the strict part of a total order of classes -/
structure LtOk (M : Model) (A : Around) (E : Value → Shared → Prop) (s : Shared) (kd : SortKind) (S : Keyed → Prop) (L : Keyed → Keyed → Bool) : Prop where
  lt : ∀ x y, S x → S y → ∀ (st : SortSt) (Q : Option Bool → SortSt → Prop), kindOf st = kd → Q (some (L x y)) st → wpS M A E s (lt' x y) Q st
  tr : ∀ x y z, S x → S y → S z → L y x = false → L z y = false → L z x = false
  as : ∀ x y, S x → S y → L x y = true → L y x = false
section
variable {M : Model} {A : Around} {E : Value → Shared → Prop} {s : Shared} {kd : SortKind} {S : Keyed → Prop} {L : Keyed → Keyed → Bool}
theorem wpS_elem {arr : Array Keyed} {i : Nat} {x : Keyed} {st : SortSt} {Q : Keyed → SortSt → Prop} (h : arr[i]? = some x) (q : Q x st) : wpS M A E s (elem' arr i) Q st := by
  rw [elem'_eq, h]
  exact wpS_pure q
theorem gallop_spec (O : LtOk M A E s kd S L) {left : Bool} {key : Keyed} {arr : Array Keyed} {base n hint : Nat} {b : Nat → Bool} {Q : Option Nat → SortSt → Prop} {st : SortSt} (hk : kindOf st = kd) (hS : S key)
    (hb : ∀ i, i < n → ∃ x, arr[base + i]? = some x ∧ S x ∧ (if left = true then L x key else !L key x) = b i) (mono : ∀ i j, i ≤ j → j < n → b j = true → b i = true) (hh : hint < n)
    (hQ : ∀ k, k ≤ n → (∀ i, i < k → b i = true) → (∀ i, k ≤ i → i < n → b i = false) → Q (some k) st) : wpS M A E s (gallop' left key arr base n hint) Q st := by
  have bey : ∀ i, i < n → ∀ (Q' : Option Bool → SortSt → Prop), Q' (some (b i)) st → wpS M A E s ((fun i => do
        let x ← elem' arr (base + i)
        if left = true then lt' x key
          else do
            let r ← lt' key x
            pure (Option.map (fun x => !x) r)) i) Q' st := fun i hi Q' q => by
    obtain ⟨x, e, sx, eb⟩ := hb i hi
    refine wpS_bind (wpS_elem e ?_)
    cases left with
    | true =>
      rw [if_pos rfl] at eb ⊢
      exact O.lt x key sx hS st Q' hk (by rw [eb]; exact q)
    | false =>
      rw [if_neg (by simp)] at eb ⊢
      refine wpS_bind (O.lt key x hS sx st _ hk (wpS_pure ?_))
      show Q' (some (!L key x)) st
      rw [eb]; exact q
  refine wpS_bind (bey hint hh _ ?_)
  dsimp only
  cases hbh : b hint with
  | true =>
    rw [if_pos rfl]
    refine wpS_bind (wpS_mono (wpS_forRange (I := fun x c st' => st' = st ∧ ∃ la of, c = (none, la, of) ∧ la < n - hint ∧ la < of ∧ x + 1 ≤ of ∧ b (hint + la) = true)
      (Q := fun c st' => st' = st ∧ ∃ la of, c = (none, la, of) ∧ la < n - hint ∧ la < of ∧ b (hint + la) = true ∧ (of < n - hint → b (hint + of) = false)) ?_ ?_ ⟨rfl, 0, 1, rfl, by omega, by omega, by omega, hbh⟩) ?_)
    · rintro x c st' _ hx ⟨rfl, la, of, rfl, g1, g2, g3, g4⟩
      dsimp only
      by_cases hge : of ≥ n - hint
      · rw [if_pos hge]
        exact wpS_pure ⟨rfl, la, of, rfl, g1, g2, g4, fun z => absurd z (by omega)⟩
      · rw [if_neg hge]
        refine wpS_bind (bey (hint + of) (by omega) _ ?_)
        dsimp only
        cases hbo : b (hint + of) with
        | true =>
          rw [if_neg (by simp)]
          exact wpS_pure ⟨rfl, of, 2 * of + 1, rfl, by omega, by omega, by omega, hbo⟩
        | false =>
          rw [if_pos (by simp)]
          exact wpS_pure ⟨rfl, la, of, rfl, g1, g2, g4, fun _ => hbo⟩
    · rintro c st' ⟨rfl, la, of, rfl, g1, g2, g3, g4⟩
      exact ⟨rfl, la, of, rfl, g1, g2, g4, fun z => absurd z (by simp at g3; omega)⟩
    · rintro c st' ⟨rfl, la, of, rfl, g1, g2, g3, g4⟩
      dsimp only
      have hlo : ∀ i, i < hint + la + 1 → b i = true := fun i hi => mono i (hint + la) (by omega) (by omega) g3
      have hhi : ∀ i, hint + min of (n - hint) ≤ i → i < n → b i = false := fun i h1 h2 => by
        by_cases ho : of < n - hint
        · cases q : b i with
          | false => rfl
          | true =>
            have := mono (hint + of) i (by omega) h2 q
            rw [g4 ho] at this; cases this
        · exact absurd h2 (by omega)
      refine wpS_bind (wpS_mono (wpS_forRange (I := fun x c z => z = st' ∧ ∃ lo hi, c = (none, lo, hi) ∧ lo ≤ hi ∧ hi ≤ n ∧ (hi - lo) + x ≤ n ∧ (∀ i, i < lo → b i = true) ∧ ∀ i, hi ≤ i → i < n → b i = false)
        (Q := fun c z => z = st' ∧ ∃ k, c = (none, k, k) ∧ k ≤ n ∧ (∀ i, i < k → b i = true) ∧ ∀ i, k ≤ i → i < n → b i = false) ?_ ?_ ⟨rfl, hint + la + 1, hint + min of (n - hint), rfl, by omega, by omega, by omega, hlo, hhi⟩) ?_)
      · rintro x c st'' _ hx ⟨rfl, lo, hi, rfl, g1, g2, g3, g4, g5⟩
        dsimp only
        by_cases hge : lo ≥ hi
        · rw [if_pos hge]
          have e : lo = hi := by omega
          subst e
          exact wpS_pure ⟨rfl, lo, rfl, g2, g4, g5⟩
        · rw [if_neg hge]
          have hm : lo + (hi - lo) / 2 < n := by omega
          refine wpS_bind (bey _ hm _ ?_)
          dsimp only
          cases hbm : b (lo + (hi - lo) / 2) with
          | true =>
            rw [if_pos rfl]
            refine wpS_pure ⟨rfl, _, _, rfl, by omega, g2, by omega, fun i hi' => ?_, g5⟩
            exact mono i _ (by omega) hm hbm
          | false =>
            rw [if_neg (by simp)]
            refine wpS_pure ⟨rfl, _, _, rfl, by omega, by omega, by omega, g4, fun i hi1 hi2 => ?_⟩
            cases q : b i with
            | false => rfl
            | true => rw [mono _ i hi1 hi2 q] at hbm; cases hbm
      · rintro c st'' ⟨rfl, lo, hi, rfl, g1, g2, g3, g4, g5⟩
        have e : lo = hi := by simp at g3; omega
        subst e
        exact ⟨rfl, lo, rfl, g2, g4, g5⟩
      · rintro c st'' ⟨rfl, k, rfl, g1, g2, g3⟩
        exact wpS_pure (hQ k g1 g2 g3)
  | false =>
    rw [if_neg (by simp)]
    refine wpS_bind (wpS_mono (wpS_forRange (I := fun x c st' => st' = st ∧ ∃ la of, c = (none, la, of) ∧ la < hint + 1 ∧ la < of ∧ x + 1 ≤ of ∧ b (hint - la) = false)
      (Q := fun c st' => st' = st ∧ ∃ la of, c = (none, la, of) ∧ la < hint + 1 ∧ la < of ∧ b (hint - la) = false ∧ (of < hint + 1 → b (hint - of) = true)) ?_ ?_ ⟨rfl, 0, 1, rfl, by omega, by omega, by omega, hbh⟩) ?_)
    · rintro x c st' _ hx ⟨rfl, la, of, rfl, g1, g2, g3, g4⟩
      dsimp only
      by_cases hge : of ≥ hint + 1
      · rw [if_pos hge]
        exact wpS_pure ⟨rfl, la, of, rfl, g1, g2, g4, fun z => absurd z (by omega)⟩
      · rw [if_neg hge]
        refine wpS_bind (bey (hint - of) (by omega) _ ?_)
        dsimp only
        cases hbo : b (hint - of) with
        | true =>
          rw [if_pos rfl]
          exact wpS_pure ⟨rfl, la, of, rfl, g1, g2, g4, fun _ => hbo⟩
        | false =>
          rw [if_neg (by simp)]
          exact wpS_pure ⟨rfl, of, 2 * of + 1, rfl, by omega, by omega, by omega, hbo⟩
    · rintro c st' ⟨rfl, la, of, rfl, g1, g2, g3, g4⟩
      exact ⟨rfl, la, of, rfl, g1, g2, g4, fun z => absurd z (by simp at g3; omega)⟩
    · rintro c st' ⟨rfl, la, of, rfl, g1, g2, g3, g4⟩
      dsimp only
      have hlo : ∀ i, i < hint + 1 - min of (hint + 1) → b i = true := fun i hi => by
        by_cases ho : of < hint + 1
        · exact mono i (hint - of) (by omega) (by omega) (g4 ho)
        · exact absurd hi (by omega)
      have hhi : ∀ i, hint - la ≤ i → i < n → b i = false := fun i h1 h2 => by
        cases q : b i with
        | false => rfl
        | true =>
          have := mono (hint - la) i (by omega) h2 q
          rw [g3] at this; cases this
      refine wpS_bind (wpS_mono (wpS_forRange (I := fun x c z => z = st' ∧ ∃ lo hi, c = (none, lo, hi) ∧ lo ≤ hi ∧ hi ≤ n ∧ (hi - lo) + x ≤ n ∧ (∀ i, i < lo → b i = true) ∧ ∀ i, hi ≤ i → i < n → b i = false)
        (Q := fun c z => z = st' ∧ ∃ k, c = (none, k, k) ∧ k ≤ n ∧ (∀ i, i < k → b i = true) ∧ ∀ i, k ≤ i → i < n → b i = false) ?_ ?_ ⟨rfl, hint + 1 - min of (hint + 1), hint - la, rfl, by omega, by omega, by omega, hlo, hhi⟩) ?_)
      · rintro x c st'' _ hx ⟨rfl, lo, hi, rfl, g1, g2, g3, g4, g5⟩
        dsimp only
        by_cases hge : lo ≥ hi
        · rw [if_pos hge]
          have e : lo = hi := by omega
          subst e
          exact wpS_pure ⟨rfl, lo, rfl, g2, g4, g5⟩
        · rw [if_neg hge]
          have hm : lo + (hi - lo) / 2 < n := by omega
          refine wpS_bind (bey _ hm _ ?_)
          dsimp only
          cases hbm : b (lo + (hi - lo) / 2) with
          | true =>
            rw [if_pos rfl]
            refine wpS_pure ⟨rfl, _, _, rfl, by omega, g2, by omega, fun i hi' => ?_, g5⟩
            exact mono i _ (by omega) hm hbm
          | false =>
            rw [if_neg (by simp)]
            refine wpS_pure ⟨rfl, _, _, rfl, by omega, by omega, by omega, g4, fun i hi1 hi2 => ?_⟩
            cases q : b i with
            | false => rfl
            | true => rw [mono _ i hi1 hi2 q] at hbm; cases hbm
      · rintro c st'' ⟨rfl, lo, hi, rfl, g1, g2, g3, g4, g5⟩
        have e : lo = hi := by simp at g3; omega
        subst e
        exact ⟨rfl, lo, rfl, g2, g4, g5⟩
      · rintro c st'' ⟨rfl, k, rfl, g1, g2, g3⟩
        exact wpS_pure (hQ k g1 g2 g3)
end
end TS

/-! Two sorted rows put together: what holds between two moves. -/
namespace TS
section
variable {α : Type} {le : α → α → Prop}
/-- out has been laid, a from ia on and b from ib on are left -/
structure MI (le : α → α → Prop) (a b out : List α) (ia ib : Nat) : Prop where
  ha : ia ≤ a.length
  hb : ib ≤ b.length
  perm : (out ++ a.drop ia ++ b.drop ib).Perm (a ++ b)
  sorted : out.Pairwise le
  lea : ∀ x ∈ out, ∀ y ∈ a.drop ia, le x y
  leb : ∀ x ∈ out, ∀ y ∈ b.drop ib, le x y
theorem drop_split (a : List α) (i k : Nat) : a.drop i = (a.drop i).take k ++ a.drop (i + k) := by
  rw [← List.drop_drop, List.take_append_drop]
theorem MI.takeA {a b out : List α} {ia ib : Nat} (m : MI le a b out ia ib) (sa : a.Pairwise le) (k : Nat) (hk : ia + k ≤ a.length) (h : ∀ x ∈ (a.drop ia).take k, ∀ y ∈ b.drop ib, le x y) :
    MI le a b (out ++ (a.drop ia).take k) (ia + k) ib := by
  have e := drop_split a ia k
  have sd : ((a.drop ia).take k ++ a.drop (ia + k)).Pairwise le := by rw [← e]; exact sa.sublist (List.drop_sublist _ _)
  obtain ⟨s1, s2, s3⟩ := List.pairwise_append.mp sd
  refine ⟨hk, m.hb, ?_, List.pairwise_append.mpr ⟨m.sorted, s1, fun x hx y hy => m.lea x hx y ?_⟩, fun x hx y hy => ?_, fun x hx y hy => ?_⟩
  · have := m.perm
    rw [e] at this
    simpa [List.append_assoc] using this
  · rw [e]; exact List.mem_append_left _ hy
  · rcases List.mem_append.mp hx with q | q
    · exact m.lea x q y (by rw [e]; exact List.mem_append_right _ hy)
    · exact s3 x q y hy
  · rcases List.mem_append.mp hx with q | q
    · exact m.leb x q y hy
    · exact h x q y hy
theorem MI.takeB {a b out : List α} {ia ib : Nat} (m : MI le a b out ia ib) (sb : b.Pairwise le) (k : Nat) (hk : ib + k ≤ b.length) (h : ∀ x ∈ (b.drop ib).take k, ∀ y ∈ a.drop ia, le x y) :
    MI le a b (out ++ (b.drop ib).take k) ia (ib + k) := by
  have e := drop_split b ib k
  have sd : ((b.drop ib).take k ++ b.drop (ib + k)).Pairwise le := by rw [← e]; exact sb.sublist (List.drop_sublist _ _)
  obtain ⟨s1, s2, s3⟩ := List.pairwise_append.mp sd
  refine ⟨m.ha, hk, ?_, List.pairwise_append.mpr ⟨m.sorted, s1, fun x hx y hy => m.leb x hx y ?_⟩, fun x hx y hy => ?_, fun x hx y hy => ?_⟩
  · have := m.perm
    rw [e] at this
    refine List.Perm.trans ?_ this
    rw [List.append_assoc, List.append_assoc, List.append_assoc, ← List.append_assoc ((b.drop ib).take k), ← List.append_assoc (a.drop ia)]
    exact List.Perm.append_left _ (List.Perm.append_right _ List.perm_append_comm)
  · rw [e]; exact List.mem_append_left _ hy
  · rcases List.mem_append.mp hx with q | q
    · exact m.lea x q y hy
    · exact h x q y hy
  · rcases List.mem_append.mp hx with q | q
    · exact m.leb x q y (by rw [e]; exact List.mem_append_right _ hy)
    · exact s3 x q y hy
/-- what is wanted: all of both, sorted -/
def Res (le : α → α → Prop) (a b r : List α) : Prop := r.Perm (a ++ b) ∧ r.Pairwise le
theorem MI.done {a b out : List α} {ia ib : Nat} (m : MI le a b out ia ib) (sa : a.Pairwise le) (h : b.length ≤ ib) : Res le a b (out ++ a.drop ia ++ b.drop ib) := by
  refine ⟨m.perm, ?_⟩
  rw [List.drop_of_length_le h, List.append_nil]
  exact List.pairwise_append.mpr ⟨m.sorted, sa.sublist (List.drop_sublist _ _), m.lea⟩
theorem MI.lastA {a b out : List α} {ia ib : Nat} (m : MI le a b out ia ib) (sa : a.Pairwise le) (sb : b.Pairwise le) (h : ∀ x ∈ b.drop ib, ∀ y ∈ a.drop ia, le x y) : Res le a b (out ++ b.drop ib ++ a.drop ia) := by
  refine ⟨?_, ?_⟩
  · refine List.Perm.trans ?_ m.perm
    rw [List.append_assoc, List.append_assoc]
    exact List.Perm.append_left _ List.perm_append_comm
  · refine List.pairwise_append.mpr ⟨List.pairwise_append.mpr ⟨m.sorted, sb.sublist (List.drop_sublist _ _), m.leb⟩, sa.sublist (List.drop_sublist _ _), fun x hx y hy => ?_⟩
    rcases List.mem_append.mp hx with q | q
    · exact m.lea x q y hy
    · exact h x q y hy
theorem MI.start {a b : List α} {y : α} (sb : b.Pairwise le) (h0 : b[0]? = some y) (h : ∀ x ∈ a, le y x) : MI le a b [y] 0 1 := by
  cases b with
  | nil => cases h0
  | cons z r =>
    cases h0
    obtain ⟨s1, s2⟩ := List.pairwise_cons.mp sb
    refine ⟨Nat.zero_le _, by simp, ?_, by simp, fun x hx w hw => ?_, fun x hx w hw => ?_⟩
    · show ([y] ++ a ++ r).Perm (a ++ y :: r)
      exact List.perm_middle.symm
    · rw [List.mem_singleton.mp hx]; exact h w hw
    · rw [List.mem_singleton.mp hx]; exact s1 w hw
end
end TS

namespace TS
open PySem PyProof.Rows
/-- the state but for the gallop's number -/
def Like (st st' : SortSt) : Prop := kindOf st' = kindOf st ∧ arrOf st' = arrOf st ∧ pendingOf st' = pendingOf st ∧ failedOf st' = failedOf st
theorem Like.refl (st : SortSt) : Like st st := ⟨rfl, rfl, rfl, rfl⟩
abbrev leOf (L : Keyed → Keyed → Bool) : Keyed → Keyed → Prop := fun x y => L y x = false
section
variable {M : Model} {A : Around} {E : Value → Shared → Prop} {s : Shared} {kd : SortKind} {S : Keyed → Prop} {L : Keyed → Keyed → Bool}
theorem LtOk.rf (O : LtOk M A E s kd S L) {x : Keyed} (h : S x) : L x x = false := by
  cases q : L x x with
  | false => rfl
  | true => rw [O.as x x h h q] at q; cases q
/-- two sorted rows, the first of b ahead of a's, the last of a behind b's -/
structure Two (S : Keyed → Prop) (L : Keyed → Keyed → Bool) (a b : Array Keyed) : Prop where
  sa : a.toList.Pairwise (leOf L)
  sb : b.toList.Pairwise (leOf L)
  Sa : ∀ x ∈ a.toList, S x
  Sb : ∀ x ∈ b.toList, S x
theorem at_mem {a : Array Keyed} {i : Nat} {x : Keyed} (h : a[i]? = some x) : x ∈ a.toList := by
  have : a.toList[i]? = some x := by simpa using h
  exact List.mem_of_getElem? this
theorem drop_at {a : Array Keyed} {i : Nat} {x : Keyed} (h : a[i]? = some x) : a.toList.drop i = x :: a.toList.drop (i + 1) := by
  have hl : i < a.toList.length := by
    have := (Array.getElem?_eq_some_iff.mp h).1
    simpa using this
  rw [List.drop_eq_getElem_cons hl]
  congr 1
  have := (Array.getElem?_eq_some_iff.mp h).2
  simpa using this
theorem le_drop {a : Array Keyed} (O : LtOk M A E s kd S L) (sa : a.toList.Pairwise (leOf L)) (Sa : ∀ x ∈ a.toList, S x) {i : Nat} {x y : Keyed} (h : a[i]? = some x) (hy : y ∈ a.toList.drop i) : leOf L x y := by
  rw [drop_at h] at hy
  rcases List.mem_cons.mp hy with e | q
  · rw [e]; exact O.rf (Sa x (at_mem h))
  · have := sa.sublist (List.drop_sublist i _)
    rw [drop_at h] at this
    exact (List.pairwise_cons.mp this).1 y q
variable {a b : Array Keyed} {out : Array Keyed} {ia ib : Nat}
theorem one_B (O : LtOk M A E s kd S L) (T : Two S L a b) (m : MI (leOf L) a.toList b.toList out.toList ia ib) {x y : Keyed} (hb : b[ib]? = some x) (ha : a[ia]? = some y) (h : L x y = true) :
    MI (leOf L) a.toList b.toList (out.push x).toList ia (ib + 1) := by
  have e : (b.toList.drop ib).take 1 = [x] := by rw [drop_at hb]; rfl
  have hl : ib + 1 ≤ b.toList.length := by
    have := (Array.getElem?_eq_some_iff.mp hb).1
    rw [Array.length_toList]; exact this
  have := m.takeB T.sb 1 hl fun z hz w hw => by
    rw [e] at hz
    rw [List.mem_singleton.mp hz]
    have h1 : leOf L x y := O.as x y (T.Sb x (at_mem hb)) (T.Sa y (at_mem ha)) h
    exact O.tr x y w (T.Sb x (at_mem hb)) (T.Sa y (at_mem ha)) (T.Sa w (List.mem_of_mem_drop hw)) h1 (le_drop O T.sa T.Sa ha hw)
  rw [e] at this
  rw [Array.toList_push]
  exact this
theorem one_A (O : LtOk M A E s kd S L) (T : Two S L a b) (m : MI (leOf L) a.toList b.toList out.toList ia ib) {x y : Keyed} (hb : b[ib]? = some x) (ha : a[ia]? = some y) (h : L x y = false) :
    MI (leOf L) a.toList b.toList (out.push y).toList (ia + 1) ib := by
  have e : (a.toList.drop ia).take 1 = [y] := by rw [drop_at ha]; rfl
  have hl : ia + 1 ≤ a.toList.length := by
    have := (Array.getElem?_eq_some_iff.mp ha).1
    rw [Array.length_toList]; exact this
  have := m.takeA T.sa 1 hl fun z hz w hw => by
    rw [e] at hz
    rw [List.mem_singleton.mp hz]
    exact O.tr y x w (T.Sa y (at_mem ha)) (T.Sb x (at_mem hb)) (T.Sb w (List.mem_of_mem_drop hw)) h (le_drop O T.sb T.Sb hb hw)
  rw [e] at this
  rw [Array.toList_push]
  exact this
theorem toList_cut (a : Array Keyed) (i k : Nat) : (a.extract i (i + k)).toList = (a.toList.drop i).take k := by
  rw [Array.toList_extract, List.extract_eq_take_drop, Nat.add_sub_cancel_left]
theorem mem_cut {a : Array Keyed} {i k : Nat} {x : Keyed} (h : x ∈ (a.toList.drop i).take k) : ∃ j, j < k ∧ a[i + j]? = some x := by
  obtain ⟨j, hj, e⟩ := List.getElem_of_mem h
  have hk : j < k := by
    have := hj
    rw [List.length_take] at this
    omega
  refine ⟨j, hk, ?_⟩
  have h1 : ((a.toList.drop i).take k)[j]? = some x := by rw [List.getElem?_eq_getElem hj, e]
  rw [List.getElem?_take_of_lt hk, List.getElem?_drop] at h1
  simpa using h1
theorem blk_A (O : LtOk M A E s kd S L) (T : Two S L a b) (m : MI (leOf L) a.toList b.toList out.toList ia ib) {x : Keyed} (hb : b[ib]? = some x) (k : Nat) (hk : ia + k ≤ a.size) (h : ∀ j y, j < k → a[ia + j]? = some y → L x y = false) :
    MI (leOf L) a.toList b.toList (out ++ a.extract ia (ia + k)).toList (ia + k) ib := by
  rw [Array.toList_append, toList_cut]
  refine m.takeA T.sa k (by rw [Array.length_toList]; exact hk) fun z hz w hw => ?_
  obtain ⟨j, hj, e⟩ := mem_cut hz
  exact O.tr z x w (T.Sa z (at_mem e)) (T.Sb x (at_mem hb)) (T.Sb w (List.mem_of_mem_drop hw)) (h j z hj e) (le_drop O T.sb T.Sb hb hw)
theorem blk_B (O : LtOk M A E s kd S L) (T : Two S L a b) (m : MI (leOf L) a.toList b.toList out.toList ia ib) {y : Keyed} (ha : a[ia]? = some y) (k : Nat) (hk : ib + k ≤ b.size) (h : ∀ j x, j < k → b[ib + j]? = some x → L x y = true) :
    MI (leOf L) a.toList b.toList (out ++ b.extract ib (ib + k)).toList ia (ib + k) := by
  rw [Array.toList_append, toList_cut]
  refine m.takeB T.sb k (by rw [Array.length_toList]; exact hk) fun z hz w hw => ?_
  obtain ⟨j, hj, e⟩ := mem_cut hz
  exact O.tr z y w (T.Sb z (at_mem e)) (T.Sa y (at_mem ha)) (T.Sa w (List.mem_of_mem_drop hw)) (O.as z y (T.Sb z (at_mem e)) (T.Sa y (at_mem ha)) (h j z hj e)) (le_drop O T.sa T.Sa ha hw)
/-- the two searches of a gallop -/
theorem seek_A (O : LtOk M A E s kd S L) (T : Two S L a b) {st : SortSt} (hk : kindOf st = kd) {x : Keyed} (Sx : S x) (hi : ia < a.size) {Q : Option Nat → SortSt → Prop}
    (hQ : ∀ k, ia + k ≤ a.size → (∀ j y, j < k → a[ia + j]? = some y → L x y = false) → (∀ j y, k ≤ j → a[ia + j]? = some y → L x y = true) → Q (some k) st) {hint : Nat} (hh : hint < a.size - ia) :
    wpS M A E s (gallop' false x a ia (a.size - ia) hint) Q st := by
  have at_ : ∀ i, i < a.size - ia → ∃ y, a[ia + i]? = some y := fun i h => ⟨a[ia + i], by simp [show ia + i < a.size by omega]⟩
  refine gallop_spec (b := fun i => !(a[ia + i]?.elim false fun y => L x y)) O hk Sx (fun i h => ?_) (fun i j hij hj q => ?_) hh fun k h1 h2 h3 => ?_
  · obtain ⟨y, e⟩ := at_ i h
    exact ⟨y, e, T.Sa y (at_mem e), by rw [if_neg (by simp), e]; rfl⟩
  · obtain ⟨y, e⟩ := at_ j hj
    obtain ⟨z, e2⟩ := at_ i (by omega)
    rw [e] at q
    rw [e2]
    have q1 : L x y = false := by simpa using q
    have le1 : leOf L z y := le_drop O T.sa T.Sa e2 (by
      have : y ∈ (a.toList.drop (ia + i)).drop (j - i) := by
        rw [List.drop_drop, show ia + i + (j - i) = ia + j by omega, drop_at e]
        exact List.mem_cons_self
      exact List.mem_of_mem_drop this)
    have : L x z = false := O.tr z y x (T.Sa z (at_mem e2)) (T.Sa y (at_mem e)) Sx le1 q1
    simpa using this
  · refine hQ k (by omega) (fun j y hj e => ?_) (fun j y hj e => ?_)
    · have := h2 j hj
      rw [e] at this
      simpa using this
    · have hlt : j < a.size - ia := by
        have := (Array.getElem?_eq_some_iff.mp e).1
        omega
      have := h3 j hj hlt
      rw [e] at this
      simpa using this
theorem seek_B (O : LtOk M A E s kd S L) (T : Two S L a b) {st : SortSt} (hk : kindOf st = kd) {y : Keyed} (Sy : S y) (hi : ib < b.size) {Q : Option Nat → SortSt → Prop}
    (hQ : ∀ k, ib + k ≤ b.size → (∀ j x, j < k → b[ib + j]? = some x → L x y = true) → (∀ j x, k ≤ j → b[ib + j]? = some x → L x y = false) → Q (some k) st) {hint : Nat} (hh : hint < b.size - ib) :
    wpS M A E s (gallop' true y b ib (b.size - ib) hint) Q st := by
  have at_ : ∀ i, i < b.size - ib → ∃ x, b[ib + i]? = some x := fun i h => ⟨b[ib + i], by simp [show ib + i < b.size by omega]⟩
  refine gallop_spec (b := fun i => b[ib + i]?.elim false fun x => L x y) O hk Sy (fun i h => ?_) (fun i j hij hj q => ?_) hh fun k h1 h2 h3 => ?_
  · obtain ⟨x, e⟩ := at_ i h
    exact ⟨x, e, T.Sb x (at_mem e), by rw [if_pos rfl, e]; rfl⟩
  · obtain ⟨x, e⟩ := at_ j hj
    obtain ⟨z, e2⟩ := at_ i (by omega)
    rw [e] at q
    rw [e2]
    have q1 : L x y = true := q
    show L z y = true
    have le1 : leOf L z x := le_drop O T.sb T.Sb e2 (by
      have : x ∈ (b.toList.drop (ib + i)).drop (j - i) := by
        rw [List.drop_drop, show ib + i + (j - i) = ib + j by omega, drop_at e]
        exact List.mem_cons_self
      exact List.mem_of_mem_drop this)
    cases w : L z y with
    | true => rfl
    | false =>
      have : L x y = false := O.tr y z x Sy (T.Sb z (at_mem e2)) (T.Sb x (at_mem e)) w le1
      rw [this] at q1; cases q1
  · refine hQ k (by omega) (fun j x hj e => ?_) (fun j x hj e => ?_)
    · have := h2 j hj
      rw [e] at this
      exact this
    · have hlt : j < b.size - ib := by
        have := (Array.getElem?_eq_some_iff.mp e).1
        omega
      have := h3 j hj hlt
      rw [e] at this
      exact this
end
end TS

set_option maxHeartbeats 8000000
namespace TS
open PySem PyProof.Rows
section
variable {M : Model} {A : Around} {E : Value → Shared → Prop} {s : Shared} {kd : SortKind} {S : Keyed → Prop} {L : Keyed → Keyed → Bool} {a b out : Array Keyed} {ia ib : Nat}
theorem toList_from (a : Array Keyed) (i : Nat) : (a.extract i a.size).toList = a.toList.drop i := by
  rw [Array.toList_extract, List.extract_eq_take_drop, List.take_of_length_le (by simp)]
theorem fin_done (T : Two S L a b) (m : MI (leOf L) a.toList b.toList out.toList ia ib) (h : b.size ≤ ib) : Res (leOf L) a.toList b.toList (out ++ a.extract ia a.size ++ b.extract ib b.size).toList := by
  rw [Array.toList_append, Array.toList_append, toList_from, toList_from]
  exact m.done T.sa (by rw [Array.length_toList]; exact h)
theorem fin_doneA (T : Two S L a b) (m : MI (leOf L) a.toList b.toList out.toList ia ib) (h : a.size ≤ ia) : Res (leOf L) a.toList b.toList (out ++ a.extract ia a.size ++ b.extract ib b.size).toList := by
  rw [Array.toList_append, Array.toList_append, toList_from, toList_from]
  have e : a.toList.drop ia = [] := List.drop_of_length_le (by rw [Array.length_toList]; exact h)
  refine ⟨m.perm, ?_⟩
  rw [e, List.append_nil]
  exact List.pairwise_append.mpr ⟨m.sorted, T.sb.sublist (List.drop_sublist _ _), m.leb⟩
theorem fin_last (T : Two S L a b) (hl : ∀ z, a[a.size - 1]? = some z → ∀ x ∈ b.toList, leOf L x z) (m : MI (leOf L) a.toList b.toList out.toList ia ib) (h : ia + 1 = a.size) : Res (leOf L) a.toList b.toList (out ++ b.extract ib b.size ++ a.extract ia a.size).toList := by
  rw [Array.toList_append, Array.toList_append, toList_from, toList_from]
  have hlt : ia < a.size := by lia
  have e : a[ia]? = some a[ia] := by simp [hlt]
  refine m.lastA T.sa T.sb fun x hx y hy => ?_
  rw [drop_at e, List.drop_of_length_le (by rw [Array.length_toList]; lia)] at hy
  rw [List.mem_singleton.mp hy]
  exact hl _ (by rw [show a.size - 1 = ia by lia]; exact e) x (List.mem_of_mem_drop hx)
theorem mergeLo_spec (O : LtOk M A E s kd S L) (T : Two S L a b) {st : SortSt} {Q : Array Keyed → SortSt → Prop} (hk : kindOf st = kd) (ha : 0 < a.size) (hb : 0 < b.size) (h0 : ∀ y, b[0]? = some y → ∀ x ∈ a.toList, leOf L y x)
    (hl : ∀ z, a[a.size - 1]? = some z → ∀ x ∈ b.toList, leOf L x z) (hQ : ∀ r st', Res (leOf L) a.toList b.toList r.toList → Like st st' → Q r st') : wpS M A E s (mergeLo' a b) Q st := by
  have atA : ∀ i, i < a.size → ∃ x, a[i]? = some x := fun i h => ⟨a[i], by simp [h]⟩
  have atB : ∀ i, i < b.size → ∃ x, b[i]? = some x := fun i h => ⟨b[i], by simp [h]⟩
  obtain ⟨b0, e0⟩ := atB 0 hb
  have m0 : MI (leOf L) a.toList b.toList (#[b0] : Array Keyed).toList 0 1 := MI.start T.sb (by simpa using e0) (h0 b0 e0)
  refine wpS_bind (wpS_lift (wpAny_rule ⟨rfl, ?_⟩))
  refine wpS_bind (wpS_elem e0 ?_)
  dsimp only
  by_cases hb1 : b.size = 1
  · rw [if_pos (by simp [hb1])]
    exact wpS_pure (hQ _ _ (fin_done T m0 (by lia)) (Like.refl _))
  rw [if_neg (by simp; lia)]
  by_cases ha1 : a.size = 1
  · rw [if_pos (by simp [ha1])]
    exact wpS_pure (hQ _ _ (fin_last T hl m0 (by lia)) (Like.refl _))
  rw [if_neg (by simp; lia)]
  refine wpS_bind (wpS_get ?_)
  refine wpS_bind (wpS_mono (wpS_forRange (I := fun x c st' => Like st st' ∧ ∃ out ia ib mg, c = (none, out, ia, ib, mg) ∧ MI (leOf L) a.toList b.toList out.toList ia ib ∧ ia + 1 < a.size ∧ ib < b.size ∧ x + 1 ≤ ia + ib)
    (Q := fun c st' => Like st st' ∧ ∃ r, c.1 = some r ∧ Res (leOf L) a.toList b.toList r.toList) ?step ?fin ⟨Like.refl _, _, _, _, _, rfl, m0, by lia, by lia, by lia⟩) ?post)
  case fin =>
    rintro c st' ⟨_, out, ia, ib, mg, rfl, m, g1, g2, g3⟩
    exact absurd g3 (by lia)
  case post =>
    rintro c st' ⟨lk, r, e, res⟩
    rw [e]
    exact wpS_pure (hQ r st' res lk)
  case step =>
    rintro x c st' _ hx ⟨lk, out, ia, ib, mg, rfl, m, g1, g2, g3⟩
    have hk' : kindOf st' = kd := lk.1.trans hk
    dsimp only
    refine wpS_bind (wpS_mono (wpS_forRange (I := fun y c z => z = st' ∧ ∃ out' ia' ib' ac bc, c = (none, out', ia', ib', ac, bc) ∧ MI (leOf L) a.toList b.toList out'.toList ia' ib' ∧ ia' + 1 < a.size ∧ ib' < b.size ∧ ia + ib + y ≤ ia' + ib')
      (Q := fun c z => z = st' ∧ ((∃ r, c.1 = some r ∧ Res (leOf L) a.toList b.toList r.toList) ∨ ∃ out' ia' ib' ac bc, c = (none, out', ia', ib', ac, bc) ∧ MI (leOf L) a.toList b.toList out'.toList ia' ib' ∧ ia' + 1 < a.size ∧ ib' < b.size ∧ ia + ib + 1 ≤ ia' + ib')) ?istep ?ifin ⟨rfl, out, ia, ib, _, _, rfl, m, g1, g2, by lia⟩) ?ipost)
    case ifin =>
      rintro c z ⟨rfl, out', ia', ib', ac, bc, rfl, m', j1, j2, j3⟩
      exact ⟨rfl, .inr ⟨out', ia', ib', ac, bc, rfl, m', j1, j2, by lia⟩⟩
    case istep =>
      rintro y c z _ hy ⟨rfl, out', ia', ib', ac, bc, rfl, m', j1, j2, j3⟩
      obtain ⟨xb, eb⟩ := atB ib' j2
      obtain ⟨xa, ea⟩ := atA ia' (by lia)
      dsimp only
      refine wpS_bind (wpS_elem eb (wpS_bind (wpS_elem ea (wpS_bind (O.lt xb xa (T.Sb _ (at_mem eb)) (T.Sa _ (at_mem ea)) _ _ hk' ?_)))))
      dsimp only
      cases hw : L xb xa with
      | true =>
        rw [if_pos rfl]
        have m2 := one_B O T m' eb ea hw
        refine wpS_bind (wpS_elem eb ?_)
        by_cases hend : ib' + 1 = b.size
        · rw [if_pos (by simp [hend])]
          exact wpS_pure ⟨rfl, .inl ⟨_, rfl, fin_done T m2 (by lia)⟩⟩
        · rw [if_neg (by simp [hend])]
          by_cases hg : bc + 1 ≥ mg
          · rw [if_pos hg]
            exact wpS_pure ⟨rfl, .inr ⟨_, _, _, _, _, rfl, m2, j1, by lia, by lia⟩⟩
          · rw [if_neg hg]
            exact wpS_pure ⟨rfl, _, _, _, _, _, rfl, m2, j1, by lia, by lia⟩
      | false =>
        rw [if_neg (by simp)]
        have m2 := one_A O T m' eb ea hw
        refine wpS_bind (wpS_elem ea ?_)
        by_cases hend : ia' + 1 + 1 = a.size
        · rw [if_pos (by simp [hend])]
          exact wpS_pure ⟨rfl, .inl ⟨_, rfl, fin_last T hl m2 (by lia)⟩⟩
        · rw [if_neg (by simp [hend])]
          by_cases hg : ac + 1 ≥ mg
          · rw [if_pos hg]
            exact wpS_pure ⟨rfl, .inr ⟨_, _, _, _, _, rfl, m2, by lia, j2, by lia⟩⟩
          · rw [if_neg hg]
            exact wpS_pure ⟨rfl, _, _, _, _, _, rfl, m2, by lia, j2, by lia⟩
    case ipost =>
      rintro c z ⟨rfl, hc⟩
      rcases hc with ⟨r, e, res⟩ | ⟨out', ia', ib', ac, bc, rfl, m', j1, j2, j3⟩
      · rw [e]
        exact wpS_pure ⟨lk, r, rfl, res⟩
      · dsimp only
        refine wpS_bind (wpS_lift (wpAny_rule ⟨rfl, ?_⟩))
        refine wpS_bind (wpS_mono (wpS_forRange (I := fun y c z => Like st z ∧ ∃ out2 ia2 ib2 mg2 ac2 bc2, c = (none, out2, ia2, ib2, mg2, ac2, bc2) ∧ MI (leOf L) a.toList b.toList out2.toList ia2 ib2 ∧ ia2 + 1 < a.size ∧ ib2 < b.size ∧ ia' + ib' ≤ ia2 + ib2)
          (Q := fun c z => Like st z ∧ ((∃ r, c.1 = some r ∧ Res (leOf L) a.toList b.toList r.toList) ∨ ∃ out2 ia2 ib2 mg2 ac2 bc2, c = (none, out2, ia2, ib2, mg2, ac2, bc2) ∧ MI (leOf L) a.toList b.toList out2.toList ia2 ib2 ∧ ia2 + 1 < a.size ∧ ib2 < b.size ∧ ia' + ib' ≤ ia2 + ib2)) ?gstep ?gfin ⟨lk, out', ia', ib', _, _, _, rfl, m', j1, j2, Nat.le_refl _⟩) ?gpost)
        case gfin =>
          rintro c z ⟨lk2, rest⟩
          exact ⟨lk2, .inr rest⟩
        case gpost =>
          rintro c z ⟨lk2, hc⟩
          rcases hc with ⟨r, e, res⟩ | ⟨out2, ia2, ib2, mg2, ac2, bc2, rfl, m2, k1, k2, k3⟩
          · rw [e]
            exact wpS_pure ⟨lk2, r, rfl, res⟩
          · dsimp only
            refine wpS_bind (wpS_modify ?_)
            exact wpS_pure ⟨lk2, _, _, _, _, rfl, m2, k1, k2, by lia⟩
        case gstep =>
          rintro y c z _ hy ⟨lk2, out2, ia2, ib2, mg2, ac2, bc2, rfl, m2, k1, k2, k3⟩
          obtain ⟨xb, eb⟩ := atB ib2 k2
          have hkz : kindOf z = kd := lk2.1.trans hk
          have lk3 := lk2
          dsimp only
          by_cases hmg : mg2 > 1
          · rw [if_pos hmg]
            refine wpS_bind (wpS_modify ?_)
            refine wpS_bind (wpS_elem eb ?_)
            refine wpS_bind (seek_A O T (by exact hkz) (T.Sb _ (at_mem eb)) (by lia) (fun k q1 q2 q3 => ?_) (by lia))
            dsimp only
            by_cases hk0 : k > 0
            · rw [if_pos hk0]
              have n1 := blk_A O T m2 eb k q1 q2
              by_cases e1 : ia2 + k + 1 = a.size
              · rw [if_pos (by simp [e1])]
                exact wpS_pure ⟨lk3, .inl ⟨_, rfl, fin_last T hl n1 e1⟩⟩
              · rw [if_neg (by simp [e1])]
                by_cases e2 : ia2 + k = a.size
                · rw [if_pos (by simp [e2])]
                  exact wpS_pure ⟨lk3, .inl ⟨_, rfl, fin_doneA T n1 (by lia)⟩⟩
                · rw [if_neg (by simp [e2])]
                  obtain ⟨ya, ea3⟩ := atA (ia2 + k) (by lia)
                  have hw : L xb ya = true := q3 k ya (Nat.le_refl _) ea3
                  have n2 := one_B O T n1 eb ea3 hw
                  refine wpS_bind (wpS_elem eb ?_)
                  by_cases e3 : ib2 + 1 = b.size
                  · rw [if_pos (by simp [e3])]
                    exact wpS_pure ⟨lk3, .inl ⟨_, rfl, fin_done T n2 (by lia)⟩⟩
                  · rw [if_neg (by simp [e3])]
                    refine wpS_bind (wpS_elem ea3 ?_)
                    refine wpS_bind (seek_B O T (by exact hkz) (T.Sa _ (at_mem ea3)) (by lia) (fun k' r1 r2 r3 => ?_) (by lia))
                    dsimp only
                    by_cases hk1 : k' > 0
                    · rw [if_pos hk1]
                      have n3 := blk_B O T n2 ea3 k' r1 r2
                      by_cases e4 : ib2 + 1 + k' = b.size
                      · rw [if_pos (by simp [e4])]
                        exact wpS_pure ⟨lk3, .inl ⟨_, rfl, fin_done T n3 (by lia)⟩⟩
                      · rw [if_neg (by simp [e4])]
                        obtain ⟨xb3, eb3⟩ := atB (ib2 + 1 + k') (by lia)
                        have hw2 : L xb3 ya = false := r3 k' xb3 (Nat.le_refl _) eb3
                        have n4 := one_A O T n3 eb3 ea3 hw2
                        refine wpS_bind (wpS_elem ea3 ?_)
                        by_cases e5 : ia2 + k + 1 + 1 = a.size
                        · rw [if_pos (by simp [e5])]
                          exact wpS_pure ⟨lk3, .inl ⟨_, rfl, fin_last T hl n4 (by lia)⟩⟩
                        · rw [if_neg (by simp [e5])]
                          split
                          · exact wpS_pure ⟨lk3, .inr ⟨_, _, _, _, _, _, rfl, n4, by lia, by lia, by lia⟩⟩
                          · exact wpS_pure ⟨lk3, _, _, _, _, _, _, rfl, n4, by lia, by lia, by lia⟩
                    · rw [if_neg hk1]
                      have kz1 : k' = 0 := by lia
                      subst kz1
                      obtain ⟨xb3, eb3⟩ := atB (ib2 + 1) (by lia)
                      have hw2 : L xb3 ya = false := r3 0 xb3 (Nat.le_refl _) (by simpa using eb3)
                      have n4 := one_A O T n2 eb3 ea3 hw2
                      refine wpS_bind (wpS_elem ea3 ?_)
                      by_cases e5 : ia2 + k + 1 + 1 = a.size
                      · rw [if_pos (by simp [e5])]
                        exact wpS_pure ⟨lk3, .inl ⟨_, rfl, fin_last T hl n4 (by lia)⟩⟩
                      · rw [if_neg (by simp [e5])]
                        split
                        · exact wpS_pure ⟨lk3, .inr ⟨_, _, _, _, _, _, rfl, n4, by lia, by lia, by lia⟩⟩
                        · exact wpS_pure ⟨lk3, _, _, _, _, _, _, rfl, n4, by lia, by lia, by lia⟩
            · rw [if_neg hk0]
              have kz : k = 0 := by lia
              subst kz
              obtain ⟨ya, ea3⟩ := atA (ia2) (by lia)
              have hw : L xb ya = true := q3 0 ya (Nat.le_refl _) (by simpa using ea3)
              have n2 := one_B O T m2 eb ea3 hw
              refine wpS_bind (wpS_elem eb ?_)
              by_cases e3 : ib2 + 1 = b.size
              · rw [if_pos (by simp [e3])]
                exact wpS_pure ⟨lk3, .inl ⟨_, rfl, fin_done T n2 (by lia)⟩⟩
              · rw [if_neg (by simp [e3])]
                refine wpS_bind (wpS_elem ea3 ?_)
                refine wpS_bind (seek_B O T (by exact hkz) (T.Sa _ (at_mem ea3)) (by lia) (fun k' r1 r2 r3 => ?_) (by lia))
                dsimp only
                by_cases hk1 : k' > 0
                · rw [if_pos hk1]
                  have n3 := blk_B O T n2 ea3 k' r1 r2
                  by_cases e4 : ib2 + 1 + k' = b.size
                  · rw [if_pos (by simp [e4])]
                    exact wpS_pure ⟨lk3, .inl ⟨_, rfl, fin_done T n3 (by lia)⟩⟩
                  · rw [if_neg (by simp [e4])]
                    obtain ⟨xb3, eb3⟩ := atB (ib2 + 1 + k') (by lia)
                    have hw2 : L xb3 ya = false := r3 k' xb3 (Nat.le_refl _) eb3
                    have n4 := one_A O T n3 eb3 ea3 hw2
                    refine wpS_bind (wpS_elem ea3 ?_)
                    by_cases e5 : ia2 + 1 + 1 = a.size
                    · rw [if_pos (by simp [e5])]
                      exact wpS_pure ⟨lk3, .inl ⟨_, rfl, fin_last T hl n4 (by lia)⟩⟩
                    · rw [if_neg (by simp [e5])]
                      split
                      · exact wpS_pure ⟨lk3, .inr ⟨_, _, _, _, _, _, rfl, n4, by lia, by lia, by lia⟩⟩
                      · exact wpS_pure ⟨lk3, _, _, _, _, _, _, rfl, n4, by lia, by lia, by lia⟩
                · rw [if_neg hk1]
                  have kz1 : k' = 0 := by lia
                  subst kz1
                  obtain ⟨xb3, eb3⟩ := atB (ib2 + 1) (by lia)
                  have hw2 : L xb3 ya = false := r3 0 xb3 (Nat.le_refl _) (by simpa using eb3)
                  have n4 := one_A O T n2 eb3 ea3 hw2
                  refine wpS_bind (wpS_elem ea3 ?_)
                  by_cases e5 : ia2 + 1 + 1 = a.size
                  · rw [if_pos (by simp [e5])]
                    exact wpS_pure ⟨lk3, .inl ⟨_, rfl, fin_last T hl n4 (by lia)⟩⟩
                  · rw [if_neg (by simp [e5])]
                    split
                    · exact wpS_pure ⟨lk3, .inr ⟨_, _, _, _, _, _, rfl, n4, by lia, by lia, by lia⟩⟩
                    · exact wpS_pure ⟨lk3, _, _, _, _, _, _, rfl, n4, by lia, by lia, by lia⟩
          · rw [if_neg hmg]
            refine wpS_bind (wpS_modify ?_)
            refine wpS_bind (wpS_elem eb ?_)
            refine wpS_bind (seek_A O T (by exact hkz) (T.Sb _ (at_mem eb)) (by lia) (fun k q1 q2 q3 => ?_) (by lia))
            dsimp only
            by_cases hk0 : k > 0
            · rw [if_pos hk0]
              have n1 := blk_A O T m2 eb k q1 q2
              by_cases e1 : ia2 + k + 1 = a.size
              · rw [if_pos (by simp [e1])]
                exact wpS_pure ⟨lk3, .inl ⟨_, rfl, fin_last T hl n1 e1⟩⟩
              · rw [if_neg (by simp [e1])]
                by_cases e2 : ia2 + k = a.size
                · rw [if_pos (by simp [e2])]
                  exact wpS_pure ⟨lk3, .inl ⟨_, rfl, fin_doneA T n1 (by lia)⟩⟩
                · rw [if_neg (by simp [e2])]
                  obtain ⟨ya, ea3⟩ := atA (ia2 + k) (by lia)
                  have hw : L xb ya = true := q3 k ya (Nat.le_refl _) ea3
                  have n2 := one_B O T n1 eb ea3 hw
                  refine wpS_bind (wpS_elem eb ?_)
                  by_cases e3 : ib2 + 1 = b.size
                  · rw [if_pos (by simp [e3])]
                    exact wpS_pure ⟨lk3, .inl ⟨_, rfl, fin_done T n2 (by lia)⟩⟩
                  · rw [if_neg (by simp [e3])]
                    refine wpS_bind (wpS_elem ea3 ?_)
                    refine wpS_bind (seek_B O T (by exact hkz) (T.Sa _ (at_mem ea3)) (by lia) (fun k' r1 r2 r3 => ?_) (by lia))
                    dsimp only
                    by_cases hk1 : k' > 0
                    · rw [if_pos hk1]
                      have n3 := blk_B O T n2 ea3 k' r1 r2
                      by_cases e4 : ib2 + 1 + k' = b.size
                      · rw [if_pos (by simp [e4])]
                        exact wpS_pure ⟨lk3, .inl ⟨_, rfl, fin_done T n3 (by lia)⟩⟩
                      · rw [if_neg (by simp [e4])]
                        obtain ⟨xb3, eb3⟩ := atB (ib2 + 1 + k') (by lia)
                        have hw2 : L xb3 ya = false := r3 k' xb3 (Nat.le_refl _) eb3
                        have n4 := one_A O T n3 eb3 ea3 hw2
                        refine wpS_bind (wpS_elem ea3 ?_)
                        by_cases e5 : ia2 + k + 1 + 1 = a.size
                        · rw [if_pos (by simp [e5])]
                          exact wpS_pure ⟨lk3, .inl ⟨_, rfl, fin_last T hl n4 (by lia)⟩⟩
                        · rw [if_neg (by simp [e5])]
                          split
                          · exact wpS_pure ⟨lk3, .inr ⟨_, _, _, _, _, _, rfl, n4, by lia, by lia, by lia⟩⟩
                          · exact wpS_pure ⟨lk3, _, _, _, _, _, _, rfl, n4, by lia, by lia, by lia⟩
                    · rw [if_neg hk1]
                      have kz1 : k' = 0 := by lia
                      subst kz1
                      obtain ⟨xb3, eb3⟩ := atB (ib2 + 1) (by lia)
                      have hw2 : L xb3 ya = false := r3 0 xb3 (Nat.le_refl _) (by simpa using eb3)
                      have n4 := one_A O T n2 eb3 ea3 hw2
                      refine wpS_bind (wpS_elem ea3 ?_)
                      by_cases e5 : ia2 + k + 1 + 1 = a.size
                      · rw [if_pos (by simp [e5])]
                        exact wpS_pure ⟨lk3, .inl ⟨_, rfl, fin_last T hl n4 (by lia)⟩⟩
                      · rw [if_neg (by simp [e5])]
                        split
                        · exact wpS_pure ⟨lk3, .inr ⟨_, _, _, _, _, _, rfl, n4, by lia, by lia, by lia⟩⟩
                        · exact wpS_pure ⟨lk3, _, _, _, _, _, _, rfl, n4, by lia, by lia, by lia⟩
            · rw [if_neg hk0]
              have kz : k = 0 := by lia
              subst kz
              obtain ⟨ya, ea3⟩ := atA (ia2) (by lia)
              have hw : L xb ya = true := q3 0 ya (Nat.le_refl _) (by simpa using ea3)
              have n2 := one_B O T m2 eb ea3 hw
              refine wpS_bind (wpS_elem eb ?_)
              by_cases e3 : ib2 + 1 = b.size
              · rw [if_pos (by simp [e3])]
                exact wpS_pure ⟨lk3, .inl ⟨_, rfl, fin_done T n2 (by lia)⟩⟩
              · rw [if_neg (by simp [e3])]
                refine wpS_bind (wpS_elem ea3 ?_)
                refine wpS_bind (seek_B O T (by exact hkz) (T.Sa _ (at_mem ea3)) (by lia) (fun k' r1 r2 r3 => ?_) (by lia))
                dsimp only
                by_cases hk1 : k' > 0
                · rw [if_pos hk1]
                  have n3 := blk_B O T n2 ea3 k' r1 r2
                  by_cases e4 : ib2 + 1 + k' = b.size
                  · rw [if_pos (by simp [e4])]
                    exact wpS_pure ⟨lk3, .inl ⟨_, rfl, fin_done T n3 (by lia)⟩⟩
                  · rw [if_neg (by simp [e4])]
                    obtain ⟨xb3, eb3⟩ := atB (ib2 + 1 + k') (by lia)
                    have hw2 : L xb3 ya = false := r3 k' xb3 (Nat.le_refl _) eb3
                    have n4 := one_A O T n3 eb3 ea3 hw2
                    refine wpS_bind (wpS_elem ea3 ?_)
                    by_cases e5 : ia2 + 1 + 1 = a.size
                    · rw [if_pos (by simp [e5])]
                      exact wpS_pure ⟨lk3, .inl ⟨_, rfl, fin_last T hl n4 (by lia)⟩⟩
                    · rw [if_neg (by simp [e5])]
                      split
                      · exact wpS_pure ⟨lk3, .inr ⟨_, _, _, _, _, _, rfl, n4, by lia, by lia, by lia⟩⟩
                      · exact wpS_pure ⟨lk3, _, _, _, _, _, _, rfl, n4, by lia, by lia, by lia⟩
                · rw [if_neg hk1]
                  have kz1 : k' = 0 := by lia
                  subst kz1
                  obtain ⟨xb3, eb3⟩ := atB (ib2 + 1) (by lia)
                  have hw2 : L xb3 ya = false := r3 0 xb3 (Nat.le_refl _) (by simpa using eb3)
                  have n4 := one_A O T n2 eb3 ea3 hw2
                  refine wpS_bind (wpS_elem ea3 ?_)
                  by_cases e5 : ia2 + 1 + 1 = a.size
                  · rw [if_pos (by simp [e5])]
                    exact wpS_pure ⟨lk3, .inl ⟨_, rfl, fin_last T hl n4 (by lia)⟩⟩
                  · rw [if_neg (by simp [e5])]
                    split
                    · exact wpS_pure ⟨lk3, .inr ⟨_, _, _, _, _, _, rfl, n4, by lia, by lia, by lia⟩⟩
                    · exact wpS_pure ⟨lk3, _, _, _, _, _, _, rfl, n4, by lia, by lia, by lia⟩
end
end TS

set_option maxHeartbeats 8000000
namespace TS
open PySem PyProof.Rows
section
variable {α : Type} {le : α → α → Prop}
/-- from the end: a up to na and b up to nb are left, r is the laid part in its order -/
structure MJ (le : α → α → Prop) (a b r : List α) (na nb : Nat) : Prop where
  ha : na ≤ a.length
  hb : nb ≤ b.length
  perm : (a.take na ++ b.take nb ++ r).Perm (a ++ b)
  sorted : r.Pairwise le
  lea : ∀ x ∈ a.take na, ∀ y ∈ r, le x y
  leb : ∀ x ∈ b.take nb, ∀ y ∈ r, le x y
theorem take_split (a : List α) (i n : Nat) (h : i ≤ n) : a.take n = a.take i ++ (a.drop i).take (n - i) := by
  rw [← List.take_add, show i + (n - i) = n by omega]
theorem MJ.takeA {a b r : List α} {na nb : Nat} (m : MJ le a b r na nb) (sa : a.Pairwise le) (i : Nat) (hi : i ≤ na) (h : ∀ x ∈ b.take nb, ∀ y ∈ (a.drop i).take (na - i), le x y) :
    MJ le a b ((a.drop i).take (na - i) ++ r) i nb := by
  have e := take_split a i na hi
  have sd : (a.take i ++ (a.drop i).take (na - i)).Pairwise le := by rw [← e]; exact sa.sublist (List.take_sublist _ _)
  obtain ⟨s1, s2, s3⟩ := List.pairwise_append.mp sd
  refine ⟨Nat.le_trans hi m.ha, m.hb, ?_, List.pairwise_append.mpr ⟨s2, m.sorted, fun x hx y hy => m.lea x (by rw [e]; exact List.mem_append_right _ hx) y hy⟩, fun x hx y hy => ?_, fun x hx y hy => ?_⟩
  · have := m.perm
    rw [e] at this
    refine List.Perm.trans ?_ this
    rw [List.append_assoc, List.append_assoc, List.append_assoc, ← List.append_assoc (b.take nb), ← List.append_assoc ((a.drop i).take (na - i))]
    exact List.Perm.append_left _ (List.Perm.append_right _ List.perm_append_comm)
  · rcases List.mem_append.mp hy with q | q
    · exact s3 x hx y q
    · exact m.lea x (by rw [e]; exact List.mem_append_left _ hx) y q
  · rcases List.mem_append.mp hy with q | q
    · exact h x hx y q
    · exact m.leb x hx y q
theorem MJ.takeB {a b r : List α} {na nb : Nat} (m : MJ le a b r na nb) (sb : b.Pairwise le) (i : Nat) (hi : i ≤ nb) (h : ∀ x ∈ a.take na, ∀ y ∈ (b.drop i).take (nb - i), le x y) :
    MJ le a b ((b.drop i).take (nb - i) ++ r) na i := by
  have e := take_split b i nb hi
  have sd : (b.take i ++ (b.drop i).take (nb - i)).Pairwise le := by rw [← e]; exact sb.sublist (List.take_sublist _ _)
  obtain ⟨s1, s2, s3⟩ := List.pairwise_append.mp sd
  refine ⟨m.ha, Nat.le_trans hi m.hb, ?_, List.pairwise_append.mpr ⟨s2, m.sorted, fun x hx y hy => m.leb x (by rw [e]; exact List.mem_append_right _ hx) y hy⟩, fun x hx y hy => ?_, fun x hx y hy => ?_⟩
  · have := m.perm
    rw [e] at this
    simpa [List.append_assoc] using this
  · rcases List.mem_append.mp hy with q | q
    · exact h x hx y q
    · exact m.lea x hx y q
  · rcases List.mem_append.mp hy with q | q
    · exact s3 x hx y q
    · exact m.leb x (by rw [e]; exact List.mem_append_left _ hx) y q
theorem MJ.doneB {a b r : List α} {nb : Nat} (m : MJ le a b r 0 nb) (sb : b.Pairwise le) : Res le a b (a.take 0 ++ b.take nb ++ r) :=
  ⟨m.perm, by rw [List.take_zero, List.nil_append]; exact List.pairwise_append.mpr ⟨sb.sublist (List.take_sublist _ _), m.sorted, m.leb⟩⟩
theorem MJ.doneA {a b r : List α} {na : Nat} (m : MJ le a b r na 0) (sa : a.Pairwise le) : Res le a b (a.take na ++ b.take 0 ++ r) :=
  ⟨m.perm, by rw [List.take_zero, List.append_nil]; exact List.pairwise_append.mpr ⟨sa.sublist (List.take_sublist _ _), m.sorted, m.lea⟩⟩
theorem MJ.firstB {a b r : List α} {na nb : Nat} (m : MJ le a b r na nb) (sa : a.Pairwise le) (sb : b.Pairwise le) (h : ∀ x ∈ b.take nb, ∀ y ∈ a.take na, le x y) : Res le a b (b.take nb ++ a.take na ++ r) := by
  refine ⟨List.Perm.trans (List.Perm.append_right _ List.perm_append_comm) m.perm, ?_⟩
  refine List.pairwise_append.mpr ⟨List.pairwise_append.mpr ⟨sb.sublist (List.take_sublist _ _), sa.sublist (List.take_sublist _ _), h⟩, m.sorted, fun x hx y hy => ?_⟩
  rcases List.mem_append.mp hx with q | q
  · exact m.leb x q y hy
  · exact m.lea x q y hy
end
end TS

set_option maxHeartbeats 8000000
namespace TS
open PySem PyProof.Rows
section
variable {M : Model} {A : Around} {E : Value → Shared → Prop} {s : Shared} {kd : SortKind} {S : Keyed → Prop} {L : Keyed → Keyed → Bool} {a b out : Array Keyed} {na nb : Nat}
theorem le_take {a : Array Keyed} (O : LtOk M A E s kd S L) (sa : a.toList.Pairwise (leOf L)) (Sa : ∀ x ∈ a.toList, S x) {i : Nat} {x y : Keyed} (h : a[i]? = some x) (hy : y ∈ a.toList.take (i + 1)) : leOf L y x := by
  have hi : i < a.toList.length := by
    have := (Array.getElem?_eq_some_iff.mp h).1
    rw [Array.length_toList]; exact this
  have e : a.toList.take (i + 1) = a.toList.take i ++ [x] := by
    rw [List.take_succ]
    have : a.toList[i]? = some x := by simpa using h
    rw [this]; rfl
  rw [e] at hy
  rcases List.mem_append.mp hy with q | q
  · have := sa.sublist (List.take_sublist (i + 1) _)
    rw [e] at this
    exact (List.pairwise_append.mp this).2.2 y q x List.mem_cons_self
  · rw [List.mem_singleton.mp q]; exact O.rf (Sa x (at_mem h))
theorem cut_one {a : Array Keyed} {i : Nat} {x : Keyed} (h : a[i]? = some x) : (a.toList.drop i).take (i + 1 - i) = [x] := by
  rw [drop_at h, show i + 1 - i = 1 by lia]; rfl
theorem last_A (O : LtOk M A E s kd S L) (T : Two S L a b) (m : MJ (leOf L) a.toList b.toList out.reverse.toList (na + 1) (nb + 1)) {x y : Keyed} (hb : b[nb]? = some x) (ha : a[na]? = some y) (h : L x y = true) :
    MJ (leOf L) a.toList b.toList (out.push y).reverse.toList na (nb + 1) := by
  have := m.takeA T.sa na (Nat.le_succ _) fun z hz w hw => by
    rw [cut_one ha] at hw
    rw [List.mem_singleton.mp hw]
    exact O.tr z x y (T.Sb z (List.mem_of_mem_take hz)) (T.Sb x (at_mem hb)) (T.Sa y (at_mem ha)) (le_take O T.sb T.Sb hb hz) (O.as x y (T.Sb x (at_mem hb)) (T.Sa y (at_mem ha)) h)
  rw [cut_one ha] at this
  simpa using this
theorem last_B (O : LtOk M A E s kd S L) (T : Two S L a b) (m : MJ (leOf L) a.toList b.toList out.reverse.toList (na + 1) (nb + 1)) {x y : Keyed} (hb : b[nb]? = some x) (ha : a[na]? = some y) (h : L x y = false) :
    MJ (leOf L) a.toList b.toList (out.push x).reverse.toList (na + 1) nb := by
  have := m.takeB T.sb nb (Nat.le_succ _) fun z hz w hw => by
    rw [cut_one hb] at hw
    rw [List.mem_singleton.mp hw]
    exact O.tr z y x (T.Sa z (List.mem_of_mem_take hz)) (T.Sa y (at_mem ha)) (T.Sb x (at_mem hb)) (le_take O T.sa T.Sa ha hz) h
  rw [cut_one hb] at this
  simpa using this
theorem back_A (O : LtOk M A E s kd S L) (T : Two S L a b) (m : MJ (leOf L) a.toList b.toList out.reverse.toList na (nb + 1)) {x : Keyed} (hb : b[nb]? = some x) (i : Nat) (hi : i ≤ na) (h : ∀ j y, i ≤ j → j < na → a[j]? = some y → L x y = true) :
    MJ (leOf L) a.toList b.toList (out ++ (a.extract i na).reverse).reverse.toList i (nb + 1) := by
  have := m.takeA T.sa i hi fun z hz w hw => by
    obtain ⟨j, hj, e⟩ := mem_cut hw
    exact O.tr z x w (T.Sb z (List.mem_of_mem_take hz)) (T.Sb x (at_mem hb)) (T.Sa w (at_mem e)) (le_take O T.sb T.Sb hb hz) (O.as x w (T.Sb x (at_mem hb)) (T.Sa w (at_mem e)) (h (i + j) w (by lia) (by lia) e))
  have e2 : (out ++ (a.extract i na).reverse).reverse.toList = (a.toList.drop i).take (na - i) ++ out.reverse.toList := by
    simp [Array.toList_extract, List.extract_eq_take_drop]
  rw [e2]; exact this
theorem back_B (O : LtOk M A E s kd S L) (T : Two S L a b) (m : MJ (leOf L) a.toList b.toList out.reverse.toList (na + 1) nb) {y : Keyed} (ha : a[na]? = some y) (i : Nat) (hi : i ≤ nb) (h : ∀ j x, i ≤ j → j < nb → b[j]? = some x → L x y = false) :
    MJ (leOf L) a.toList b.toList (out ++ (b.extract i nb).reverse).reverse.toList (na + 1) i := by
  have := m.takeB T.sb i hi fun z hz w hw => by
    obtain ⟨j, hj, e⟩ := mem_cut hw
    exact O.tr z y w (T.Sa z (List.mem_of_mem_take hz)) (T.Sa y (at_mem ha)) (T.Sb w (at_mem e)) (le_take O T.sa T.Sa ha hz) (h (i + j) w (by lia) (by lia) e)
  have e2 : (out ++ (b.extract i nb).reverse).reverse.toList = (b.toList.drop i).take (nb - i) ++ out.reverse.toList := by
    simp [Array.toList_extract, List.extract_eq_take_drop]
  rw [e2]; exact this
end
end TS

set_option maxHeartbeats 8000000
namespace TS
open PySem PyProof.Rows
section
variable {M : Model} {A : Around} {E : Value → Shared → Prop} {s : Shared} {kd : SortKind} {S : Keyed → Prop} {L : Keyed → Keyed → Bool} {a b out : Array Keyed} {na nb : Nat}
theorem seekA0 (O : LtOk M A E s kd S L) (T : Two S L a b) {st : SortSt} (hk : kindOf st = kd) {x : Keyed} (Sx : S x) {n : Nat} (hn : n ≤ a.size) {Q : Option Nat → SortSt → Prop}
    (hQ : ∀ k, k ≤ n → (∀ j y, j < k → a[j]? = some y → L x y = false) → (∀ j y, k ≤ j → j < n → a[j]? = some y → L x y = true) → Q (some k) st) {hint : Nat} (hh : hint < n) :
    wpS M A E s (gallop' false x a 0 n hint) Q st := by
  have at_ : ∀ i, i < n → ∃ y, a[0 + i]? = some y := fun i h => ⟨a[0 + i]'(by lia), by simp [show i < a.size by lia]⟩
  refine gallop_spec (b := fun i => !(a[0 + i]?.elim false fun y => L x y)) O hk Sx (fun i h => ?_) (fun i j hij hj q => ?_) hh fun k h1 h2 h3 => ?_
  · obtain ⟨y, e⟩ := at_ i h
    exact ⟨y, e, T.Sa y (at_mem e), by rw [if_neg (by simp), e]; rfl⟩
  · obtain ⟨y, e⟩ := at_ j hj
    obtain ⟨z, e2⟩ := at_ i (by lia)
    rw [e] at q
    rw [e2]
    have q1 : L x y = false := by simpa using q
    have le1 : leOf L z y := le_drop O T.sa T.Sa e2 (by
      have : y ∈ (a.toList.drop (0 + i)).drop (j - i) := by
        rw [List.drop_drop, show 0 + i + (j - i) = 0 + j by lia, drop_at e]
        exact List.mem_cons_self
      exact List.mem_of_mem_drop this)
    have : L x z = false := O.tr z y x (T.Sa z (at_mem e2)) (T.Sa y (at_mem e)) Sx le1 q1
    simpa using this
  · refine hQ k h1 (fun j y hj e => ?_) (fun j y hj hjn e => ?_)
    · have := h2 j hj
      rw [Nat.zero_add, e] at this
      simpa using this
    · have := h3 j hj hjn
      rw [Nat.zero_add, e] at this
      simpa using this
theorem seekB0 (O : LtOk M A E s kd S L) (T : Two S L a b) {st : SortSt} (hk : kindOf st = kd) {y : Keyed} (Sy : S y) {n : Nat} (hn : n ≤ b.size) {Q : Option Nat → SortSt → Prop}
    (hQ : ∀ k, k ≤ n → (∀ j x, j < k → b[j]? = some x → L x y = true) → (∀ j x, k ≤ j → j < n → b[j]? = some x → L x y = false) → Q (some k) st) {hint : Nat} (hh : hint < n) :
    wpS M A E s (gallop' true y b 0 n hint) Q st := by
  have at_ : ∀ i, i < n → ∃ x, b[0 + i]? = some x := fun i h => ⟨b[0 + i]'(by lia), by simp [show i < b.size by lia]⟩
  refine gallop_spec (b := fun i => b[0 + i]?.elim false fun x => L x y) O hk Sy (fun i h => ?_) (fun i j hij hj q => ?_) hh fun k h1 h2 h3 => ?_
  · obtain ⟨x, e⟩ := at_ i h
    exact ⟨x, e, T.Sb x (at_mem e), by rw [if_pos rfl, e]; rfl⟩
  · obtain ⟨x, e⟩ := at_ j hj
    obtain ⟨z, e2⟩ := at_ i (by lia)
    rw [e] at q
    rw [e2]
    have q1 : L x y = true := q
    show L z y = true
    have le1 : leOf L z x := le_drop O T.sb T.Sb e2 (by
      have : x ∈ (b.toList.drop (0 + i)).drop (j - i) := by
        rw [List.drop_drop, show 0 + i + (j - i) = 0 + j by lia, drop_at e]
        exact List.mem_cons_self
      exact List.mem_of_mem_drop this)
    cases w : L z y with
    | true => rfl
    | false =>
      have : L x y = false := O.tr y z x Sy (T.Sb z (at_mem e2)) (T.Sb x (at_mem e)) w le1
      rw [this] at q1; cases q1
  · refine hQ k h1 (fun j x hj e => ?_) (fun j x hj hjn e => ?_)
    · have := h2 j hj
      rw [Nat.zero_add, e] at this
      exact this
    · have := h3 j hj hjn
      rw [Nat.zero_add, e] at this
      exact this
theorem toList_upto (a : Array Keyed) (i : Nat) : (a.extract 0 i).toList = a.toList.take i := by
  rw [Array.toList_extract, List.extract_eq_take_drop, List.drop_zero, Nat.sub_zero]
theorem end_A (T : Two S L a b) (m : MJ (leOf L) a.toList b.toList out.reverse.toList 0 nb) : Res (leOf L) a.toList b.toList (a.extract 0 0 ++ b.extract 0 nb ++ out.reverse).toList := by
  rw [Array.toList_append, Array.toList_append, toList_upto, toList_upto]
  exact m.doneB T.sb
theorem end_B0 (T : Two S L a b) (m : MJ (leOf L) a.toList b.toList out.reverse.toList na 0) : Res (leOf L) a.toList b.toList (a.extract 0 na ++ b.extract 0 0 ++ out.reverse).toList := by
  rw [Array.toList_append, Array.toList_append, toList_upto, toList_upto]
  exact m.doneA T.sa
theorem end_B (T : Two S L a b) (h0 : ∀ y, b[0]? = some y → ∀ x ∈ a.toList, leOf L y x) (m : MJ (leOf L) a.toList b.toList out.reverse.toList na 1) : Res (leOf L) a.toList b.toList (b.extract 0 1 ++ a.extract 0 na ++ out.reverse).toList := by
  rw [Array.toList_append, Array.toList_append, toList_upto, toList_upto]
  refine m.firstB T.sa T.sb fun x hx y hy => ?_
  cases hb : b.toList with
  | nil => rw [hb] at hx; cases hx
  | cons z r =>
    rw [hb] at hx
    have e : x = z := List.mem_singleton.mp hx
    subst e
    exact h0 x (by have : b.toList[0]? = some x := by rw [hb]; rfl
                   simpa using this) y (List.mem_of_mem_take hy)
end
end TS

set_option maxHeartbeats 8000000
namespace TS
open PySem PyProof.Rows
section
variable {M : Model} {A : Around} {E : Value → Shared → Prop} {s : Shared} {kd : SortKind} {S : Keyed → Prop} {L : Keyed → Keyed → Bool} {a b out : Array Keyed} {na nb : Nat}
theorem lastA (O : LtOk M A E s kd S L) (T : Two S L a b) (h1 : 0 < na) (h2 : 0 < nb) (m : MJ (leOf L) a.toList b.toList out.reverse.toList na nb) {x y : Keyed} (hb : b[nb - 1]? = some x) (ha : a[na - 1]? = some y) (h : L x y = true) : MJ (leOf L) a.toList b.toList (out.push y).reverse.toList (na - 1) nb := by
  obtain ⟨p, rfl⟩ : ∃ p, na = p + 1 := ⟨na - 1, by lia⟩
  obtain ⟨q, rfl⟩ : ∃ q, nb = q + 1 := ⟨nb - 1, by lia⟩
  exact last_A O T m hb ha h
theorem lastB (O : LtOk M A E s kd S L) (T : Two S L a b) (h1 : 0 < na) (h2 : 0 < nb) (m : MJ (leOf L) a.toList b.toList out.reverse.toList na nb) {x y : Keyed} (hb : b[nb - 1]? = some x) (ha : a[na - 1]? = some y) (h : L x y = false) : MJ (leOf L) a.toList b.toList (out.push x).reverse.toList na (nb - 1) := by
  obtain ⟨p, rfl⟩ : ∃ p, na = p + 1 := ⟨na - 1, by lia⟩
  obtain ⟨q, rfl⟩ : ∃ q, nb = q + 1 := ⟨nb - 1, by lia⟩
  exact last_B O T m hb ha h
theorem backA (O : LtOk M A E s kd S L) (T : Two S L a b) (h2 : 0 < nb) (m : MJ (leOf L) a.toList b.toList out.reverse.toList na nb) {x : Keyed} (hb : b[nb - 1]? = some x) (i : Nat) (hi : i ≤ na) (h : ∀ j y, i ≤ j → j < na → a[j]? = some y → L x y = true) : MJ (leOf L) a.toList b.toList (out ++ (a.extract i na).reverse).reverse.toList i nb := by
  obtain ⟨q, rfl⟩ : ∃ q, nb = q + 1 := ⟨nb - 1, by lia⟩
  exact back_A O T m hb i hi h
theorem backB (O : LtOk M A E s kd S L) (T : Two S L a b) (h1 : 0 < na) (m : MJ (leOf L) a.toList b.toList out.reverse.toList na nb) {y : Keyed} (ha : a[na - 1]? = some y) (i : Nat) (hi : i ≤ nb) (h : ∀ j x, i ≤ j → j < nb → b[j]? = some x → L x y = false) : MJ (leOf L) a.toList b.toList (out ++ (b.extract i nb).reverse).reverse.toList na i := by
  obtain ⟨p, rfl⟩ : ∃ p, na = p + 1 := ⟨na - 1, by lia⟩
  exact back_B O T m ha i hi h
theorem mergeHi_spec (O : LtOk M A E s kd S L) (T : Two S L a b) {st : SortSt} {Q : Array Keyed → SortSt → Prop} (hk : kindOf st = kd) (ha : 0 < a.size) (hb : 0 < b.size) (h0 : ∀ y, b[0]? = some y → ∀ x ∈ a.toList, leOf L y x)
    (hl : ∀ z, a[a.size - 1]? = some z → ∀ x ∈ b.toList, leOf L x z) (hQ : ∀ r st', Res (leOf L) a.toList b.toList r.toList → Like st st' → Q r st') : wpS M A E s (mergeHi' a b) Q st := by
  have atA : ∀ i, i < a.size → ∃ x, a[i]? = some x := fun i h => ⟨a[i], by simp [h]⟩
  have atB : ∀ i, i < b.size → ∃ x, b[i]? = some x := fun i h => ⟨b[i], by simp [h]⟩
  obtain ⟨a1, e1⟩ := atA (a.size - 1) (by lia)
  have mS : MJ (leOf L) a.toList b.toList (#[] : Array Keyed).reverse.toList a.size b.size := ⟨by simp, by simp, by rw [List.take_of_length_le (by simp), List.take_of_length_le (by simp)]; simp, by simp, (fun _ _ _ h => by simp at h), (fun _ _ _ h => by simp at h)⟩
  have m0 : MJ (leOf L) a.toList b.toList (#[a1] : Array Keyed).reverse.toList (a.size - 1) b.size := by
    have hc := cut_one e1
    rw [show a.size - 1 + 1 = a.size by lia] at hc
    have := mS.takeA T.sa (a.size - 1) (by lia) fun x hx y hy => by
      rw [hc] at hy
      rw [List.mem_singleton.mp hy]
      exact hl a1 e1 x (List.mem_of_mem_take hx)
    rw [hc] at this
    simpa using this
  refine wpS_bind (wpS_lift (wpAny_rule ⟨rfl, ?_⟩))
  refine wpS_bind (wpS_elem e1 ?_)
  dsimp only
  by_cases ha1 : a.size - 1 = 0
  · rw [if_pos (by simp [ha1])]
    rw [ha1] at m0
    rw [ha1]
    exact wpS_pure (hQ _ _ (end_A T m0) (Like.refl _))
  rw [if_neg (by simp [ha1])]
  by_cases hb1 : b.size = 1
  · rw [if_pos (by simp [hb1])]
    rw [hb1] at m0
    rw [hb1]
    exact wpS_pure (hQ _ _ (end_B T h0 m0) (Like.refl _))
  rw [if_neg (by simp [hb1])]
  refine wpS_bind (wpS_get ?_)
  refine wpS_bind (wpS_mono (wpS_forRange (I := fun x c st' => Like st st' ∧ ∃ na nb out mg, c = (none, na, nb, out, mg) ∧ MJ (leOf L) a.toList b.toList out.reverse.toList na nb ∧ 0 < na ∧ 1 < nb ∧ na + nb + x + 1 ≤ a.size + b.size ∧ na ≤ a.size ∧ nb ≤ b.size)
    (Q := fun c st' => Like st st' ∧ ∃ r, c.1 = some r ∧ Res (leOf L) a.toList b.toList r.toList) ?step ?fin ⟨Like.refl _, _, _, _, _, rfl, m0, by lia, by lia, by lia, by lia, by lia⟩) ?post)
  case fin =>
    rintro c st' ⟨_, na, nb, out, mg, rfl, m, g1, g2, g3, g4, g5⟩
    exact absurd g3 (by lia)
  case post =>
    rintro c st' ⟨lk, r, e, res⟩
    rw [e]
    exact wpS_pure (hQ r st' res lk)
  case step =>
    rintro x c st' _ hx ⟨lk, na, nb, out, mg, rfl, m, g1, g2, g3, g4, g5⟩
    have hk' : kindOf st' = kd := lk.1.trans hk
    dsimp only
    refine wpS_bind (wpS_mono (wpS_forRange (I := fun y c z => z = st' ∧ ∃ na' nb' out' ac bc, c = (none, na', nb', out', ac, bc) ∧ MJ (leOf L) a.toList b.toList out'.reverse.toList na' nb' ∧ 0 < na' ∧ 1 < nb' ∧ na' + nb' + y ≤ na + nb ∧ na' ≤ a.size ∧ nb' ≤ b.size)
      (Q := fun c z => z = st' ∧ ((∃ r, c.1 = some r ∧ Res (leOf L) a.toList b.toList r.toList) ∨ ∃ na' nb' out' ac bc, c = (none, na', nb', out', ac, bc) ∧ MJ (leOf L) a.toList b.toList out'.reverse.toList na' nb' ∧ 0 < na' ∧ 1 < nb' ∧ na' + nb' + 1 ≤ na + nb ∧ na' ≤ a.size ∧ nb' ≤ b.size)) ?istep ?ifin ⟨rfl, na, nb, out, _, _, rfl, m, g1, g2, by lia, g4, g5⟩) ?ipost)
    case ifin =>
      rintro c z ⟨rfl, na', nb', out', ac, bc, rfl, m', j1, j2, j3, j4, j5⟩
      exact ⟨rfl, .inr ⟨na', nb', out', ac, bc, rfl, m', j1, j2, by lia, j4, j5⟩⟩
    case istep =>
      rintro y c z _ hy ⟨rfl, na', nb', out', ac, bc, rfl, m', j1, j2, j3, j4, j5⟩
      obtain ⟨xb, eb⟩ := atB (nb' - 1) (by lia)
      obtain ⟨xa, ea⟩ := atA (na' - 1) (by lia)
      dsimp only
      refine wpS_bind (wpS_elem eb (wpS_bind (wpS_elem ea (wpS_bind (O.lt xb xa (T.Sb _ (at_mem eb)) (T.Sa _ (at_mem ea)) _ _ hk' ?_)))))
      dsimp only
      cases hw : L xb xa with
      | true =>
        rw [if_pos rfl]
        have m2 := lastA O T j1 (by lia) m' eb ea hw
        refine wpS_bind (wpS_elem ea ?_)
        by_cases hend : na' - 1 = 0
        · rw [if_pos (by simp [hend])]
          rw [hend] at m2
          rw [hend]
          exact wpS_pure ⟨rfl, .inl ⟨_, rfl, end_A T m2⟩⟩
        · rw [if_neg (by simp [hend])]
          by_cases hg : ac + 1 ≥ mg
          · rw [if_pos hg]
            exact wpS_pure ⟨rfl, .inr ⟨_, _, _, _, _, rfl, m2, by lia, j2, by lia, by lia, j5⟩⟩
          · rw [if_neg hg]
            exact wpS_pure ⟨rfl, _, _, _, _, _, rfl, m2, by lia, j2, by lia, by lia, j5⟩
      | false =>
        rw [if_neg (by simp)]
        have m2 := lastB O T j1 (by lia) m' eb ea hw
        refine wpS_bind (wpS_elem eb ?_)
        by_cases hend : nb' - 1 = 1
        · rw [if_pos (by simp [hend])]
          rw [hend] at m2
          rw [hend]
          exact wpS_pure ⟨rfl, .inl ⟨_, rfl, end_B T h0 m2⟩⟩
        · rw [if_neg (by simp [hend])]
          by_cases hg : bc + 1 ≥ mg
          · rw [if_pos hg]
            exact wpS_pure ⟨rfl, .inr ⟨_, _, _, _, _, rfl, m2, j1, by lia, by lia, j4, by lia⟩⟩
          · rw [if_neg hg]
            exact wpS_pure ⟨rfl, _, _, _, _, _, rfl, m2, j1, by lia, by lia, j4, by lia⟩
    case ipost =>
      rintro c z ⟨rfl, hc⟩
      rcases hc with ⟨r, e, res⟩ | ⟨na', nb', out', ac, bc, rfl, m', j1, j2, j3, j4, j5⟩
      · rw [e]
        exact wpS_pure ⟨lk, r, rfl, res⟩
      · dsimp only
        refine wpS_bind (wpS_lift (wpAny_rule ⟨rfl, ?_⟩))
        refine wpS_bind (wpS_mono (wpS_forRange (I := fun y c z => Like st z ∧ ∃ na2 nb2 out2 mg2 ac2 bc2, c = (none, na2, nb2, out2, mg2, ac2, bc2) ∧ MJ (leOf L) a.toList b.toList out2.reverse.toList na2 nb2 ∧ 0 < na2 ∧ 1 < nb2 ∧ na2 + nb2 ≤ na' + nb' ∧ na2 ≤ a.size ∧ nb2 ≤ b.size)
          (Q := fun c z => Like st z ∧ ((∃ r, c.1 = some r ∧ Res (leOf L) a.toList b.toList r.toList) ∨ ∃ na2 nb2 out2 mg2 ac2 bc2, c = (none, na2, nb2, out2, mg2, ac2, bc2) ∧ MJ (leOf L) a.toList b.toList out2.reverse.toList na2 nb2 ∧ 0 < na2 ∧ 1 < nb2 ∧ na2 + nb2 ≤ na' + nb' ∧ na2 ≤ a.size ∧ nb2 ≤ b.size)) ?gstep ?gfin ⟨lk, na', nb', out', _, _, _, rfl, m', j1, j2, Nat.le_refl _, j4, j5⟩) ?gpost)
        case gfin =>
          rintro c z ⟨lk2, rest⟩
          exact ⟨lk2, .inr rest⟩
        case gpost =>
          rintro c z ⟨lk2, hc⟩
          rcases hc with ⟨r, e, res⟩ | ⟨na2, nb2, out2, mg2, ac2, bc2, rfl, m2, k1, k2, k3, k4, k5⟩
          · rw [e]
            exact wpS_pure ⟨lk2, r, rfl, res⟩
          · dsimp only
            refine wpS_bind (wpS_modify ?_)
            exact wpS_pure ⟨lk2, _, _, _, _, rfl, m2, k1, k2, by lia, k4, k5⟩
        case gstep =>
          rintro y c z _ hy ⟨lk2, na2, nb2, out2, mg2, ac2, bc2, rfl, m2, k1, k2, k3, k4, k5⟩
          obtain ⟨xb, eb⟩ := atB (nb2 - 1) (by lia)
          have hkz : kindOf z = kd := lk2.1.trans hk
          have lk3 := lk2
          dsimp only
          by_cases hmg : mg2 > 1
          · rw [if_pos hmg]
            refine wpS_bind (wpS_modify ?_)
            refine wpS_bind (wpS_elem eb ?_)
            refine wpS_bind (seekA0 O T (by exact hkz) (T.Sb _ (at_mem eb)) (by lia) (fun t q1 q2 q3 => ?_) (by lia))
            dsimp only
            by_cases hk0 : na2 - t > 0
            · rw [if_pos hk0]
              have n1 := backA O T (by lia) m2 eb t q1 q3
              by_cases e1 : t = 0
              · rw [if_pos (by simp [e1])]
                rw [e1] at n1
                rw [e1]
                exact wpS_pure ⟨lk3, .inl ⟨_, rfl, end_A T n1⟩⟩
              · rw [if_neg (by simp [e1])]
                obtain ⟨ya, ea3⟩ := atA (t - 1) (by lia)
                have hw : L xb ya = false := q2 (t - 1) ya (by lia) ea3
                have n2 := lastB O T (by lia) (by lia) n1 eb ea3 hw
                refine wpS_bind (wpS_elem eb ?_)
                by_cases e3 : nb2 - 1 = 1
                · rw [if_pos (by simp [e3])]
                  rw [e3] at n2
                  rw [e3]
                  exact wpS_pure ⟨lk3, .inl ⟨_, rfl, end_B T h0 n2⟩⟩
                · rw [if_neg (by simp [e3])]
                  refine wpS_bind (wpS_elem ea3 ?_)
                  refine wpS_bind (seekB0 O T (by exact hkz) (T.Sa _ (at_mem ea3)) (by lia) (fun t' r1 r2 r3 => ?_) (by lia))
                  dsimp only
                  by_cases hk1 : nb2 - 1 - t' > 0
                  · rw [if_pos hk1]
                    have n3 := backB O T (by lia) n2 ea3 t' r1 r3
                    by_cases e4 : t' = 1
                    · rw [if_pos (by simp [e4])]
                      rw [e4] at n3
                      rw [e4]
                      exact wpS_pure ⟨lk3, .inl ⟨_, rfl, end_B T h0 n3⟩⟩
                    · rw [if_neg (by simp [e4])]
                      by_cases e6 : t' = 0
                      · rw [if_pos (by simp [e6])]
                        rw [e6] at n3
                        rw [e6]
                        exact wpS_pure ⟨lk3, .inl ⟨_, rfl, end_B0 T n3⟩⟩
                      · rw [if_neg (by simp [e6])]
                        obtain ⟨xb3, eb3⟩ := atB (t' - 1) (by lia)
                        have hw2 : L xb3 ya = true := r2 (t' - 1) xb3 (by lia) eb3
                        have n4 := lastA O T (by lia) (by lia) n3 eb3 ea3 hw2
                        refine wpS_bind (wpS_elem ea3 ?_)
                        by_cases e5 : t - 1 = 0
                        · rw [if_pos (by simp [e5])]
                          rw [e5] at n4
                          rw [e5]
                          exact wpS_pure ⟨lk3, .inl ⟨_, rfl, end_A T n4⟩⟩
                        · rw [if_neg (by simp [e5])]
                          split
                          · exact wpS_pure ⟨lk3, .inr ⟨_, _, _, _, _, _, rfl, n4, by lia, by lia, by lia, by lia, by lia⟩⟩
                          · exact wpS_pure ⟨lk3, _, _, _, _, _, _, rfl, n4, by lia, by lia, by lia, by lia, by lia⟩
                  · rw [if_neg hk1]
                    obtain ⟨xb3, eb3⟩ := atB ((nb2 - 1) - 1) (by lia)
                    have hw2 : L xb3 ya = true := r2 (nb2 - 1 - 1) xb3 (by lia) eb3
                    have n4 := lastA O T (by lia) (by lia) n2 eb3 ea3 hw2
                    refine wpS_bind (wpS_elem ea3 ?_)
                    by_cases e5 : t - 1 = 0
                    · rw [if_pos (by simp [e5])]
                      rw [e5] at n4
                      rw [e5]
                      exact wpS_pure ⟨lk3, .inl ⟨_, rfl, end_A T n4⟩⟩
                    · rw [if_neg (by simp [e5])]
                      split
                      · exact wpS_pure ⟨lk3, .inr ⟨_, _, _, _, _, _, rfl, n4, by lia, by lia, by lia, by lia, by lia⟩⟩
                      · exact wpS_pure ⟨lk3, _, _, _, _, _, _, rfl, n4, by lia, by lia, by lia, by lia, by lia⟩
            · rw [if_neg hk0]
              obtain ⟨ya, ea3⟩ := atA (na2 - 1) (by lia)
              have hw : L xb ya = false := q2 (na2 - 1) ya (by lia) ea3
              have n2 := lastB O T (by lia) (by lia) m2 eb ea3 hw
              refine wpS_bind (wpS_elem eb ?_)
              by_cases e3 : nb2 - 1 = 1
              · rw [if_pos (by simp [e3])]
                rw [e3] at n2
                rw [e3]
                exact wpS_pure ⟨lk3, .inl ⟨_, rfl, end_B T h0 n2⟩⟩
              · rw [if_neg (by simp [e3])]
                refine wpS_bind (wpS_elem ea3 ?_)
                refine wpS_bind (seekB0 O T (by exact hkz) (T.Sa _ (at_mem ea3)) (by lia) (fun t' r1 r2 r3 => ?_) (by lia))
                dsimp only
                by_cases hk1 : nb2 - 1 - t' > 0
                · rw [if_pos hk1]
                  have n3 := backB O T (by lia) n2 ea3 t' r1 r3
                  by_cases e4 : t' = 1
                  · rw [if_pos (by simp [e4])]
                    rw [e4] at n3
                    rw [e4]
                    exact wpS_pure ⟨lk3, .inl ⟨_, rfl, end_B T h0 n3⟩⟩
                  · rw [if_neg (by simp [e4])]
                    by_cases e6 : t' = 0
                    · rw [if_pos (by simp [e6])]
                      rw [e6] at n3
                      rw [e6]
                      exact wpS_pure ⟨lk3, .inl ⟨_, rfl, end_B0 T n3⟩⟩
                    · rw [if_neg (by simp [e6])]
                      obtain ⟨xb3, eb3⟩ := atB (t' - 1) (by lia)
                      have hw2 : L xb3 ya = true := r2 (t' - 1) xb3 (by lia) eb3
                      have n4 := lastA O T (by lia) (by lia) n3 eb3 ea3 hw2
                      refine wpS_bind (wpS_elem ea3 ?_)
                      by_cases e5 : na2 - 1 = 0
                      · rw [if_pos (by simp [e5])]
                        rw [e5] at n4
                        rw [e5]
                        exact wpS_pure ⟨lk3, .inl ⟨_, rfl, end_A T n4⟩⟩
                      · rw [if_neg (by simp [e5])]
                        split
                        · exact wpS_pure ⟨lk3, .inr ⟨_, _, _, _, _, _, rfl, n4, by lia, by lia, by lia, by lia, by lia⟩⟩
                        · exact wpS_pure ⟨lk3, _, _, _, _, _, _, rfl, n4, by lia, by lia, by lia, by lia, by lia⟩
                · rw [if_neg hk1]
                  obtain ⟨xb3, eb3⟩ := atB ((nb2 - 1) - 1) (by lia)
                  have hw2 : L xb3 ya = true := r2 (nb2 - 1 - 1) xb3 (by lia) eb3
                  have n4 := lastA O T (by lia) (by lia) n2 eb3 ea3 hw2
                  refine wpS_bind (wpS_elem ea3 ?_)
                  by_cases e5 : na2 - 1 = 0
                  · rw [if_pos (by simp [e5])]
                    rw [e5] at n4
                    rw [e5]
                    exact wpS_pure ⟨lk3, .inl ⟨_, rfl, end_A T n4⟩⟩
                  · rw [if_neg (by simp [e5])]
                    split
                    · exact wpS_pure ⟨lk3, .inr ⟨_, _, _, _, _, _, rfl, n4, by lia, by lia, by lia, by lia, by lia⟩⟩
                    · exact wpS_pure ⟨lk3, _, _, _, _, _, _, rfl, n4, by lia, by lia, by lia, by lia, by lia⟩
          · rw [if_neg hmg]
            refine wpS_bind (wpS_modify ?_)
            refine wpS_bind (wpS_elem eb ?_)
            refine wpS_bind (seekA0 O T (by exact hkz) (T.Sb _ (at_mem eb)) (by lia) (fun t q1 q2 q3 => ?_) (by lia))
            dsimp only
            by_cases hk0 : na2 - t > 0
            · rw [if_pos hk0]
              have n1 := backA O T (by lia) m2 eb t q1 q3
              by_cases e1 : t = 0
              · rw [if_pos (by simp [e1])]
                rw [e1] at n1
                rw [e1]
                exact wpS_pure ⟨lk3, .inl ⟨_, rfl, end_A T n1⟩⟩
              · rw [if_neg (by simp [e1])]
                obtain ⟨ya, ea3⟩ := atA (t - 1) (by lia)
                have hw : L xb ya = false := q2 (t - 1) ya (by lia) ea3
                have n2 := lastB O T (by lia) (by lia) n1 eb ea3 hw
                refine wpS_bind (wpS_elem eb ?_)
                by_cases e3 : nb2 - 1 = 1
                · rw [if_pos (by simp [e3])]
                  rw [e3] at n2
                  rw [e3]
                  exact wpS_pure ⟨lk3, .inl ⟨_, rfl, end_B T h0 n2⟩⟩
                · rw [if_neg (by simp [e3])]
                  refine wpS_bind (wpS_elem ea3 ?_)
                  refine wpS_bind (seekB0 O T (by exact hkz) (T.Sa _ (at_mem ea3)) (by lia) (fun t' r1 r2 r3 => ?_) (by lia))
                  dsimp only
                  by_cases hk1 : nb2 - 1 - t' > 0
                  · rw [if_pos hk1]
                    have n3 := backB O T (by lia) n2 ea3 t' r1 r3
                    by_cases e4 : t' = 1
                    · rw [if_pos (by simp [e4])]
                      rw [e4] at n3
                      rw [e4]
                      exact wpS_pure ⟨lk3, .inl ⟨_, rfl, end_B T h0 n3⟩⟩
                    · rw [if_neg (by simp [e4])]
                      by_cases e6 : t' = 0
                      · rw [if_pos (by simp [e6])]
                        rw [e6] at n3
                        rw [e6]
                        exact wpS_pure ⟨lk3, .inl ⟨_, rfl, end_B0 T n3⟩⟩
                      · rw [if_neg (by simp [e6])]
                        obtain ⟨xb3, eb3⟩ := atB (t' - 1) (by lia)
                        have hw2 : L xb3 ya = true := r2 (t' - 1) xb3 (by lia) eb3
                        have n4 := lastA O T (by lia) (by lia) n3 eb3 ea3 hw2
                        refine wpS_bind (wpS_elem ea3 ?_)
                        by_cases e5 : t - 1 = 0
                        · rw [if_pos (by simp [e5])]
                          rw [e5] at n4
                          rw [e5]
                          exact wpS_pure ⟨lk3, .inl ⟨_, rfl, end_A T n4⟩⟩
                        · rw [if_neg (by simp [e5])]
                          split
                          · exact wpS_pure ⟨lk3, .inr ⟨_, _, _, _, _, _, rfl, n4, by lia, by lia, by lia, by lia, by lia⟩⟩
                          · exact wpS_pure ⟨lk3, _, _, _, _, _, _, rfl, n4, by lia, by lia, by lia, by lia, by lia⟩
                  · rw [if_neg hk1]
                    obtain ⟨xb3, eb3⟩ := atB ((nb2 - 1) - 1) (by lia)
                    have hw2 : L xb3 ya = true := r2 (nb2 - 1 - 1) xb3 (by lia) eb3
                    have n4 := lastA O T (by lia) (by lia) n2 eb3 ea3 hw2
                    refine wpS_bind (wpS_elem ea3 ?_)
                    by_cases e5 : t - 1 = 0
                    · rw [if_pos (by simp [e5])]
                      rw [e5] at n4
                      rw [e5]
                      exact wpS_pure ⟨lk3, .inl ⟨_, rfl, end_A T n4⟩⟩
                    · rw [if_neg (by simp [e5])]
                      split
                      · exact wpS_pure ⟨lk3, .inr ⟨_, _, _, _, _, _, rfl, n4, by lia, by lia, by lia, by lia, by lia⟩⟩
                      · exact wpS_pure ⟨lk3, _, _, _, _, _, _, rfl, n4, by lia, by lia, by lia, by lia, by lia⟩
            · rw [if_neg hk0]
              obtain ⟨ya, ea3⟩ := atA (na2 - 1) (by lia)
              have hw : L xb ya = false := q2 (na2 - 1) ya (by lia) ea3
              have n2 := lastB O T (by lia) (by lia) m2 eb ea3 hw
              refine wpS_bind (wpS_elem eb ?_)
              by_cases e3 : nb2 - 1 = 1
              · rw [if_pos (by simp [e3])]
                rw [e3] at n2
                rw [e3]
                exact wpS_pure ⟨lk3, .inl ⟨_, rfl, end_B T h0 n2⟩⟩
              · rw [if_neg (by simp [e3])]
                refine wpS_bind (wpS_elem ea3 ?_)
                refine wpS_bind (seekB0 O T (by exact hkz) (T.Sa _ (at_mem ea3)) (by lia) (fun t' r1 r2 r3 => ?_) (by lia))
                dsimp only
                by_cases hk1 : nb2 - 1 - t' > 0
                · rw [if_pos hk1]
                  have n3 := backB O T (by lia) n2 ea3 t' r1 r3
                  by_cases e4 : t' = 1
                  · rw [if_pos (by simp [e4])]
                    rw [e4] at n3
                    rw [e4]
                    exact wpS_pure ⟨lk3, .inl ⟨_, rfl, end_B T h0 n3⟩⟩
                  · rw [if_neg (by simp [e4])]
                    by_cases e6 : t' = 0
                    · rw [if_pos (by simp [e6])]
                      rw [e6] at n3
                      rw [e6]
                      exact wpS_pure ⟨lk3, .inl ⟨_, rfl, end_B0 T n3⟩⟩
                    · rw [if_neg (by simp [e6])]
                      obtain ⟨xb3, eb3⟩ := atB (t' - 1) (by lia)
                      have hw2 : L xb3 ya = true := r2 (t' - 1) xb3 (by lia) eb3
                      have n4 := lastA O T (by lia) (by lia) n3 eb3 ea3 hw2
                      refine wpS_bind (wpS_elem ea3 ?_)
                      by_cases e5 : na2 - 1 = 0
                      · rw [if_pos (by simp [e5])]
                        rw [e5] at n4
                        rw [e5]
                        exact wpS_pure ⟨lk3, .inl ⟨_, rfl, end_A T n4⟩⟩
                      · rw [if_neg (by simp [e5])]
                        split
                        · exact wpS_pure ⟨lk3, .inr ⟨_, _, _, _, _, _, rfl, n4, by lia, by lia, by lia, by lia, by lia⟩⟩
                        · exact wpS_pure ⟨lk3, _, _, _, _, _, _, rfl, n4, by lia, by lia, by lia, by lia, by lia⟩
                · rw [if_neg hk1]
                  obtain ⟨xb3, eb3⟩ := atB ((nb2 - 1) - 1) (by lia)
                  have hw2 : L xb3 ya = true := r2 (nb2 - 1 - 1) xb3 (by lia) eb3
                  have n4 := lastA O T (by lia) (by lia) n2 eb3 ea3 hw2
                  refine wpS_bind (wpS_elem ea3 ?_)
                  by_cases e5 : na2 - 1 = 0
                  · rw [if_pos (by simp [e5])]
                    rw [e5] at n4
                    rw [e5]
                    exact wpS_pure ⟨lk3, .inl ⟨_, rfl, end_A T n4⟩⟩
                  · rw [if_neg (by simp [e5])]
                    split
                    · exact wpS_pure ⟨lk3, .inr ⟨_, _, _, _, _, _, rfl, n4, by lia, by lia, by lia, by lia, by lia⟩⟩
                    · exact wpS_pure ⟨lk3, _, _, _, _, _, _, rfl, n4, by lia, by lia, by lia, by lia, by lia⟩
end
end TS

namespace TS
open PySem PyProof.Rows
section
variable {M : Model} {A : Around} {E : Value → Shared → Prop} {s : Shared} {kd : SortKind} {S : Keyed → Prop} {L : Keyed → Keyed → Bool}
/-- a stretch in order -/
def Seg (L : Keyed → Keyed → Bool) (a : Array Keyed) (lo n : Nat) : Prop := ∀ (i j : Nat) x y, i ≤ j → j < n → a[lo + i]? = some x → a[lo + j]? = some y → L y x = false
/-- .. the other way -/
def Rev (L : Keyed → Keyed → Bool) (a : Array Keyed) (lo n : Nat) : Prop := ∀ (i j : Nat) x y, i ≤ j → j < n → a[lo + i]? = some x → a[lo + j]? = some y → L x y = false
structure SB (kd : SortKind) (S : Keyed → Prop) (st0 st : SortSt) (lo hi : Nat) : Prop where
  kind : kindOf st = kd
  pend : pendingOf st = pendingOf st0
  fail : failedOf st = failedOf st0
  perm : (arrOf st).Perm (arrOf st0)
  out : ∀ k : Nat, k < lo ∨ hi ≤ k → (arrOf st)[k]? = (arrOf st0)[k]?
  all : ∀ (k : Nat) x, (arrOf st)[k]? = some x → S x
theorem SB.size {st0 st : SortSt} {lo hi : Nat} (h : SB kd S st0 st lo hi) : (arrOf st).size = (arrOf st0).size := h.perm.size_eq
theorem has_at {st : SortSt} {i : Nat} (h : i < (arrOf st).size) : ∃ x, (arrOf st)[i]? = some x := ⟨(arrOf st)[i], by simp [h]⟩
theorem Seg.more (O : LtOk M A E s kd S L) {a : Array Keyed} {lo n : Nat} {x y : Keyed} (hS : ∀ (k : Nat) x, a[k]? = some x → S x) (h : Seg L a lo (n + 1)) (hx : a[lo + n]? = some x) (hy : a[lo + (n + 1)]? = some y) (hl : L y x = false) : Seg L a lo (n + 2) := by
  intro i j u v hij hj hu hv
  rcases Nat.lt_or_ge j (n + 1) with q | q
  · exact h i j u v hij q hu hv
  · have ej : j = n + 1 := by lia
    subst ej
    rw [hy] at hv
    cases hv
    rcases Nat.lt_or_ge i (n + 1) with q2 | q2
    · have h1 := h i n u x (by lia) (by lia) hu hx
      exact O.tr u x y (hS _ _ hu) (hS _ _ hx) (hS _ _ hy) h1 hl
    · have ei : i = n + 1 := by lia
      subst ei
      rw [hy] at hu
      cases hu
      exact O.rf (hS _ _ hy)
/-- the last q + 1 are alike -/
def Blk (L : Keyed → Keyed → Bool) (a : Array Keyed) (lo n q : Nat) : Prop := ∀ (i j : Nat) x y, n - (q + 1) ≤ i → i < n → n - (q + 1) ≤ j → j < n → a[lo + i]? = some x → a[lo + j]? = some y → L x y = false
theorem SB.refl {st : SortSt} {lo hi : Nat} (hk : kindOf st = kd) (hS : ∀ (k : Nat) x, (arrOf st)[k]? = some x → S x) : SB kd S st st lo hi := ⟨hk, rfl, rfl, Array.Perm.refl _, fun _ _ => rfl, hS⟩
theorem Rev.more (O : LtOk M A E s kd S L) {a : Array Keyed} {lo n : Nat} {x y : Keyed} (hS : ∀ (k : Nat) x, a[k]? = some x → S x) (h : Rev L a lo (n + 1)) (hx : a[lo + n]? = some x) (hy : a[lo + (n + 1)]? = some y) (hl : L x y = false) : Rev L a lo (n + 2) := by
  intro i j u v hij hj hu hv
  rcases Nat.lt_or_ge j (n + 1) with q | q
  · exact h i j u v hij q hu hv
  · have ej : j = n + 1 := by lia
    subst ej
    rw [hy] at hv
    cases hv
    rcases Nat.lt_or_ge i (n + 1) with q2 | q2
    · have h1 := h i n u x (by lia) (by lia) hu hx
      exact O.tr y x u (hS _ _ hy) (hS _ _ hx) (hS _ _ hu) hl h1
    · have ei : i = n + 1 := by lia
      subst ei
      rw [hy] at hu
      cases hu
      exact O.rf (hS _ _ hy)
theorem Blk.more (O : LtOk M A E s kd S L) {a : Array Keyed} {lo n q : Nat} {x y : Keyed} (hS : ∀ (k : Nat) x, a[k]? = some x → S x) (h : Blk L a lo (n + 1) q) (hq : q < n + 1) (hx : a[lo + n]? = some x) (hy : a[lo + (n + 1)]? = some y) (h1 : L x y = false) (h2 : L y x = false) : Blk L a lo (n + 2) (q + 1) := by
  have old : ∀ (i : Nat) u, n + 1 - (q + 1) ≤ i → i < n + 1 → a[lo + i]? = some u → L u y = false ∧ L y u = false := fun i u a1 a2 hu => by
    have e1 := h i n u x a1 a2 (by lia) (by lia) hu hx
    have e2 := h n i x u (by lia) (by lia) a1 a2 hx hu
    exact ⟨O.tr y x u (hS _ _ hy) (hS _ _ hx) (hS _ _ hu) h1 e1, O.tr u x y (hS _ _ hu) (hS _ _ hx) (hS _ _ hy) e2 h2⟩
  intro i j u v a1 a2 b1 b2 hu hv
  rcases Nat.lt_or_ge i (n + 1) with ci | ci
  · rcases Nat.lt_or_ge j (n + 1) with cj | cj
    · exact h i j u v (by lia) ci (by lia) cj hu hv
    · have ej : j = n + 1 := by lia
      subst ej; rw [hy] at hv; cases hv
      exact (old i u (by lia) ci hu).1
  · have ei : i = n + 1 := by lia
    subst ei; rw [hy] at hu; cases hu
    rcases Nat.lt_or_ge j (n + 1) with cj | cj
    · exact (old j v (by lia) cj hv).2
    · have ej : j = n + 1 := by lia
      subst ej; rw [hy] at hv; cases hv
      exact O.rf (hS _ _ hy)
theorem Blk.one (O : LtOk M A E s kd S L) {a : Array Keyed} {lo n : Nat} (hS : ∀ (k : Nat) x, a[k]? = some x → S x) : Blk L a lo (n + 1) 0 := fun i j x y a1 a2 b1 b2 hx hy => by
  have ei : i = n := by lia
  have ej : j = n := by lia
  subst ei; subst ej
  rw [hx] at hy; cases hy
  exact O.rf (hS _ _ hx)
end
end TS

namespace TS
open PySem PyProof.Rows
section
variable {M : Model} {A : Around} {E : Value → Shared → Prop} {s : Shared} {kd : SortKind} {S : Keyed → Prop} {L : Keyed → Keyed → Bool}
theorem Seg.ins (O : LtOk M A E s kd S L) {a : Array Keyed} {lo k l : Nat} {p : Keyed} (hS : ∀ (k : Nat) x, a[k]? = some x → S x) (h : Seg L a lo k) (hlk : l ≤ k) (hz : lo + k < a.size) (hp : a[lo + k]? = some p)
    (h1 : ∀ (i : Nat) x, i < l → a[lo + i]? = some x → L p x = false) (h2 : ∀ (i : Nat) x, l ≤ i → i < k → a[lo + i]? = some x → L p x = true) : Seg L (bubble a (lo + k) (lo + k - (lo + l))) lo (k + 1) := by
  have at' : ∀ (i : Nat) x, i < k + 1 → (bubble a (lo + k) (lo + k - (lo + l)))[lo + i]? = some x → (i < l ∧ a[lo + i]? = some x) ∨ (i = l ∧ x = p) ∨ (l < i ∧ a[lo + (i - 1)]? = some x) := fun i x hi hx => by
    rw [getElem?_bubble hz _ (by omega)] at hx
    by_cases e : lo + i = lo + k - (lo + k - (lo + l))
    · rw [if_pos e, hp] at hx
      exact .inr (.inl ⟨by omega, (Option.some.inj hx).symm⟩)
    · rw [if_neg e] at hx
      by_cases e2 : lo + k - (lo + k - (lo + l)) < lo + i ∧ lo + i ≤ lo + k
      · rw [if_pos e2, show lo + i - 1 = lo + (i - 1) by omega] at hx
        exact .inr (.inr ⟨by omega, hx⟩)
      · rw [if_neg e2] at hx
        exact .inl ⟨by omega, hx⟩
  intro i j x y hij hj hx hy
  have sp := hS _ _ hp
  rcases at' i x (by omega) hx with ⟨a1, a2⟩ | ⟨a1, a2⟩ | ⟨a1, a2⟩
  · rcases at' j y hj hy with ⟨b1, b2⟩ | ⟨b1, b2⟩ | ⟨b1, b2⟩
    · exact h i j x y hij (by omega) a2 b2
    · rw [b2]; exact h1 i x a1 a2
    · exact h i (j - 1) x y (by omega) (by omega) a2 b2
  · subst a2
    rcases at' j y hj hy with ⟨b1, b2⟩ | ⟨b1, b2⟩ | ⟨b1, b2⟩
    · omega
    · rw [b2]; exact O.rf sp
    · exact O.as x y sp (hS _ _ b2) (h2 (j - 1) y (by omega) (by omega) b2)
  · rcases at' j y hj hy with ⟨b1, b2⟩ | ⟨b1, b2⟩ | ⟨b1, b2⟩
    · omega
    · omega
    · exact h (i - 1) (j - 1) x y (by omega) (by omega) a2 b2
end
end TS

set_option maxHeartbeats 8000000
namespace TS
open PySem PyProof.Rows
/-- a row written at o -/
def wr (a : Array Keyed) (o : Nat) (l : List Keyed) (k : Nat) : Array Keyed := (l.zipIdx k).foldl (fun a (p : Keyed × Nat) => a.setIfInBounds (o + p.2) p.1) a
theorem wr_get : ∀ (l : List Keyed) (k : Nat) (a : Array Keyed) (o i : Nat), o + k + l.length ≤ a.size → (wr a o l k)[i]? = if o + k ≤ i ∧ i < o + k + l.length then l[i - (o + k)]? else a[i]?
  | [], k, a, o, i, _ => by
    show a[i]? = _
    rw [if_neg (by simp)]
  | x :: l, k, a, o, i, hz => by
    have ih := wr_get l (k + 1) (a.setIfInBounds (o + k) x) o i (by rw [Array.size_setIfInBounds]; simp at hz; lia)
    unfold wr at ih ⊢
    rw [List.zipIdx_cons, List.foldl_cons, ih]
    simp only [List.length_cons] at hz ⊢
    by_cases h1 : o + (k + 1) ≤ i ∧ i < o + (k + 1) + l.length
    · rw [if_pos h1, if_pos (by lia), show i - (o + k) = (i - (o + (k + 1))) + 1 by lia]
      rfl
    · rw [if_neg h1]
      by_cases h2 : i = o + k
      · subst h2
        rw [if_pos (by lia), Nat.sub_self]
        rw [Array.getElem?_setIfInBounds_self_of_lt (by lia)]
        rfl
      · rw [if_neg (by lia), Array.getElem?_setIfInBounds_ne (Ne.symm h2)]
theorem wr_list {a : Array Keyed} {o : Nat} {l : List Keyed} (hz : o + l.length ≤ a.size) : (wr a o l 0).toList = a.toList.take o ++ l ++ a.toList.drop (o + l.length) := by
  apply List.ext_getElem?
  intro i
  rw [Array.getElem?_toList, wr_get l 0 a o i (by simpa using hz)]
  have h1 : (a.toList.take o).length = o := by rw [List.length_take, Array.length_toList]; lia
  by_cases c1 : i < o
  · rw [if_neg (by lia), List.append_assoc, List.getElem?_append_left (by lia), List.getElem?_take, if_pos c1, Array.getElem?_toList]
  · by_cases c2 : i < o + l.length
    · rw [if_pos (by lia), List.append_assoc, List.getElem?_append_right (by lia), List.getElem?_append_left (by lia), h1]
      rfl
    · rw [if_neg (by lia), List.getElem?_append_right (by simp; lia), List.getElem?_drop, ← Array.getElem?_toList]
      congr 1
      simp
      lia
section
variable {M : Model} {A : Around} {E : Value → Shared → Prop} {s : Shared} {kd : SortKind} {S : Keyed → Prop} {L : Keyed → Keyed → Bool}
/-- behind a merge: the two stretches are one -/
structure SM (kd : SortKind) (S : Keyed → Prop) (L : Keyed → Keyed → Bool) (st0 st : SortSt) (pd : Array (Nat × Nat × Nat)) (lo n : Nat) : Prop where
  kind : kindOf st = kd
  pend : pendingOf st = pd
  fail : failedOf st = none
  perm : (arrOf st).Perm (arrOf st0)
  out : ∀ k : Nat, k < lo ∨ lo + n ≤ k → (arrOf st)[k]? = (arrOf st0)[k]?
  all : ∀ (k : Nat) x, (arrOf st)[k]? = some x → S x
  seg : Seg L (arrOf st) lo n
theorem Seg.glue {a : Array Keyed} (O : LtOk M A E s kd S L) {lo n m : Nat} (hS : ∀ (k : Nat) x, a[k]? = some x → S x) (h1 : Seg L a lo n) (h2 : Seg L a (lo + n) m) (h : ∀ x y, a[lo + (n - 1)]? = some x → a[lo + n]? = some y → L y x = false) (hn : 0 < n) (hz : lo + n + m ≤ a.size) : Seg L a lo (n + m) := by
  intro i j x y hij hj hx hy
  rcases Nat.lt_or_ge j n with cj | cj
  · exact h1 i j x y hij cj hx hy
  · rw [show lo + j = lo + n + (j - n) by lia] at hy
    rcases Nat.lt_or_ge i n with ci | ci
    · have e1 : a[lo + (n - 1)]? = some a[lo + (n - 1)] := by rw [Array.getElem?_eq_getElem (by lia)]
      have e2 : a[lo + n]? = some a[lo + n] := by rw [Array.getElem?_eq_getElem (by lia)]
      have q1 := h1 i (n - 1) x _ (by lia) (by lia) hx e1
      have q2 := h _ _ e1 e2
      have q3 := h2 0 (j - n) _ y (Nat.zero_le _) (by lia) e2 hy
      exact O.tr x _ y (hS _ _ hx) (hS _ _ e1) (hS _ _ hy) q1 (O.tr _ _ y (hS _ _ e1) (hS _ _ e2) (hS _ _ hy) q2 q3)
    · rw [show lo + i = lo + n + (i - n) by lia] at hx
      exact h2 (i - n) (j - n) x y (by lia) (by lia) hx hy
theorem wpS_set {x : SortSt} {Q : PUnit → SortSt → Prop} {st : SortSt} (h : Q ⟨⟩ x) : wpS M A E s (set x : StateT SortSt Sem PUnit) Q st := by
  unfold wpS; rw [StateT.run_set]; exact wpAny_pure ⟨rfl, h⟩
theorem ext_get {a : Array Keyed} {o n i : Nat} (hz : o + n ≤ a.size) : (a.extract o (o + n))[i]? = if i < n then a[o + i]? else none := by
  rw [Array.getElem?_extract]
  by_cases h : i < n
  · rw [if_pos h, if_pos (by lia)]
  · rw [if_neg h, if_neg (by lia)]
theorem seg_pair {a : Array Keyed} {o n : Nat} (hz : o + n ≤ a.size) (h : Seg L a o n) : (a.extract o (o + n)).toList.Pairwise (leOf L) := by
  rw [List.pairwise_iff_getElem]
  intro i j hi hj hij
  rw [Array.length_toList, Array.size_extract] at hi hj
  have e1 : (a.extract o (o + n))[i]? = some (a.extract o (o + n)).toList[i] := by rw [← Array.getElem?_toList, List.getElem?_eq_getElem]
  have e2 : (a.extract o (o + n))[j]? = some (a.extract o (o + n)).toList[j] := by rw [← Array.getElem?_toList, List.getElem?_eq_getElem]
  rw [ext_get hz, if_pos (by lia)] at e1 e2
  exact h i j _ _ (by lia) (by lia) e1 e2
theorem ext_mem {a : Array Keyed} {o n : Nat} {x : Keyed} (hz : o + n ≤ a.size) (h : x ∈ (a.extract o (o + n)).toList) : ∃ i, i < n ∧ a[o + i]? = some x := by
  obtain ⟨i, hi, e⟩ := List.getElem_of_mem h
  have e1 : (a.extract o (o + n))[i]? = some x := by rw [← Array.getElem?_toList, List.getElem?_eq_getElem hi, e]
  rw [Array.length_toList, Array.size_extract] at hi
  refine ⟨i, by lia, ?_⟩
  rw [ext_get hz, if_pos (by lia)] at e1
  exact e1
/-- the merged row written back -/
theorem SM.write (O : LtOk M A E s kd S L) {st0 st : SortSt} {pd : Array (Nat × Nat × Nat)} {sa na nb k m : Nat} {r : Array Keyed} (hna : 1 ≤ na) (hk : k < na) (hm0 : 0 < m) (hm : m ≤ nb) (hz : sa + na + nb ≤ (arrOf st0).size) (hS : ∀ (k : Nat) x, (arrOf st0)[k]? = some x → S x)
    (sA : Seg L (arrOf st0) sa na) (sB : Seg L (arrOf st0) (sa + na) nb) (y0 z0 : Keyed) (hy0 : (arrOf st0)[sa + na]? = some y0) (hz0 : (arrOf st0)[sa + (na - 1)]? = some z0)
    (A1 : ∀ (i : Nat) x, i < k → (arrOf st0)[sa + i]? = some x → L y0 x = false) (B2 : ∀ (i : Nat) y, m ≤ i → i < nb → (arrOf st0)[sa + na + i]? = some y → L y z0 = false)
    (hr : Res (leOf L) ((arrOf st0).extract (sa + k) (sa + k + (na - k))).toList ((arrOf st0).extract (sa + na) (sa + na + m)).toList r.toList) (hkd : kindOf st = kd) (hp : pendingOf st = pd) (hf : failedOf st = none) (ha : arrOf st = wr (arrOf st0) (sa + k) r.toList 0) :
    SM kd S L st0 st pd sa (na + nb) := by
  obtain ⟨hperm, hpair⟩ := hr
  have hrl : r.toList.length = (na - k) + m := by
    rw [hperm.length_eq, List.length_append, Array.length_toList, Array.length_toList, Array.size_extract, Array.size_extract]; lia
  have hz2 : sa + k + r.toList.length ≤ (arrOf st0).size := by lia
  have get' : ∀ i : Nat, (arrOf st)[i]? = if sa + k ≤ i ∧ i < sa + k + r.toList.length then r.toList[i - (sa + k)]? else (arrOf st0)[i]? := fun i => by
    rw [ha, wr_get _ _ _ _ _ (by lia)]
    simp only [Nat.add_zero]
  have rmem : ∀ x ∈ r.toList, (∃ i, k ≤ i ∧ i < na ∧ (arrOf st0)[sa + i]? = some x) ∨ (∃ i, i < m ∧ (arrOf st0)[sa + na + i]? = some x) := fun x hx => by
    rcases List.mem_append.mp (hperm.mem_iff.mp hx) with q | q
    · obtain ⟨i, hi, e⟩ := ext_mem (by lia) q
      exact .inl ⟨k + i, by lia, by lia, by rw [show sa + (k + i) = sa + k + i by lia]; exact e⟩
    · obtain ⟨i, hi, e⟩ := ext_mem (by lia) q
      exact .inr ⟨i, hi, e⟩
  have y0le : ∀ (i : Nat) y, i < nb → (arrOf st0)[sa + na + i]? = some y → L y y0 = false := fun i y hi hy => sB 0 i y0 y (Nat.zero_le _) hi (by simpa using hy0) hy
  have lez0 : ∀ (i : Nat) x, i < na → (arrOf st0)[sa + i]? = some x → L z0 x = false := fun i x hi hx => sA i (na - 1) x z0 (by lia) (by lia) hx hz0
  refine ⟨hkd, hp, hf, ?_, fun i hi => ?_, fun i x hx => ?_, fun i j x y hij hj hx hy => ?_⟩
  · rw [ha]
    refine Array.perm_iff_toList_perm.mpr ?_
    rw [wr_list hz2]
    have e : (arrOf st0).toList = (arrOf st0).toList.take (sa + k) ++ (((arrOf st0).extract (sa + k) (sa + k + (na - k))).toList ++ ((arrOf st0).extract (sa + na) (sa + na + m)).toList) ++ (arrOf st0).toList.drop (sa + k + r.toList.length) := by
      rw [toList_cut, toList_cut]
      have d1 := List.take_append_drop (sa + k) (arrOf st0).toList
      have d2 := drop_split (arrOf st0).toList (sa + k) (na - k)
      have d3 := drop_split (arrOf st0).toList (sa + na) m
      rw [show sa + k + (na - k) = sa + na by lia] at d2
      rw [show sa + k + r.toList.length = sa + na + m by lia, List.append_assoc, List.append_assoc, ← d3, ← d2, d1]
    conv => rhs; rw [e]
    exact (hperm.append_left _).append_right _
  · rw [get', if_neg (by lia)]
  · rw [get'] at hx
    split at hx
    · rcases rmem x (List.mem_of_getElem? hx) with ⟨_, _, _, e⟩ | ⟨_, _, e⟩
      · exact hS _ _ e
      · exact hS _ _ e
    · exact hS _ _ hx
  · rw [get'] at hx hy
    by_cases ci : sa + k ≤ sa + i ∧ sa + i < sa + k + r.toList.length
    · rw [if_pos ci] at hx
      by_cases cj : sa + k ≤ sa + j ∧ sa + j < sa + k + r.toList.length
      · rw [if_pos cj] at hy
        rcases Nat.lt_or_ge i j with q | q
        · have h1 : sa + i - (sa + k) < r.toList.length := by lia
          have h2 : sa + j - (sa + k) < r.toList.length := by lia
          rw [List.getElem?_eq_getElem h1] at hx
          rw [List.getElem?_eq_getElem h2] at hy
          have := List.pairwise_iff_getElem.mp hpair _ _ h1 h2 (by lia)
          rw [Option.some.inj hx, Option.some.inj hy] at this
          exact this
        · have e : i = j := by lia
          subst e
          rw [hx] at hy; cases hy
          rcases rmem x (List.mem_of_getElem? hx) with ⟨_, _, _, e⟩ | ⟨_, _, e⟩
          · exact O.rf (hS _ _ e)
          · exact O.rf (hS _ _ e)
      · rw [if_neg cj, show sa + j = sa + na + (j - na) by lia] at hy
        have q1 := B2 (j - na) y (by lia) (by lia) hy
        rcases rmem x (List.mem_of_getElem? hx) with ⟨t, _, h2, e⟩ | ⟨t, h2, e⟩
        · exact O.tr x z0 y (hS _ _ e) (hS _ _ hz0) (hS _ _ hy) (lez0 t x h2 e) q1
        · exact sB t (j - na) x y (by lia) (by lia) e hy
    · rw [if_neg ci] at hx
      by_cases cj : sa + k ≤ sa + j ∧ sa + j < sa + k + r.toList.length
      · rw [if_pos cj] at hy
        rcases rmem y (List.mem_of_getElem? hy) with ⟨t, h1, h2, e⟩ | ⟨t, h2, e⟩
        · exact sA i t x y (by lia) h2 hx e
        · exact O.tr x y0 y (hS _ _ hx) (hS _ _ hy0) (hS _ _ e) (A1 i x (by lia) hx) (y0le t y (by lia) e)
      · rw [if_neg cj] at hy
        rcases Nat.lt_or_ge i k with ck | ck
        · rcases Nat.lt_or_ge j k with cl | cl
          · exact sA i j x y hij (by lia) hx hy
          · rw [show sa + j = sa + na + (j - na) by lia] at hy
            exact O.tr x y0 y (hS _ _ hx) (hS _ _ hy0) (hS _ _ hy) (A1 i x ck hx) (y0le (j - na) y (by lia) hy)
        · rw [show sa + i = sa + na + (i - na) by lia] at hx
          rw [show sa + j = sa + na + (j - na) by lia] at hy
          exact sB (i - na) (j - na) x y (by lia) (by lia) hx hy
theorem mergeAt_spec (O : LtOk M A E s kd S L) {st : SortSt} {i sa na pw nb pw2 : Nat} {Q : Bool → SortSt → Prop} (h1 : (pendingOf st)[i]? = some (sa, na, pw)) (h2 : (pendingOf st)[i + 1]? = some (sa + na, nb, pw2)) (hna : 1 ≤ na) (hnb : 1 ≤ nb) (hz : sa + na + nb ≤ (arrOf st).size)
    (hk : kindOf st = kd) (hf : failedOf st = none) (hS : ∀ (k : Nat) x, (arrOf st)[k]? = some x → S x) (sA : Seg L (arrOf st) sa na) (sB : Seg L (arrOf st) (sa + na) nb)
    (hQ : ∀ st', SM kd S L st st' (((pendingOf st).setIfInBounds i (sa, na + nb, pw)).eraseIdxIfInBounds (i + 1)) sa (na + nb) → Q true st') : wpS M A E s (mergeAt' i) Q st := by
  refine wpS_bind (wpS_get ?_)
  rw [h1, h2]
  dsimp only
  refine wpS_bind (wpS_set ?_)
  obtain ⟨y0, hy0⟩ := has_at (st := st) (i := sa + na) (by lia)
  obtain ⟨z0, hz0⟩ := has_at (st := st) (i := sa + (na - 1)) (by lia)
  refine wpS_bind (wpS_elem hy0 ?_)
  have Sy := hS _ _ hy0
  refine wpS_bind (gallop_spec O (left := false) (b := fun i => match (arrOf st)[sa + i]? with | some x => !L y0 x | none => false) hk Sy (fun i hi => ?_) (fun i j hij hj hb => ?_) (by lia) (fun k hkn kt kf => ?_))
  · obtain ⟨x, hx⟩ := has_at (st := st) (i := sa + i) (by lia)
    refine ⟨x, hx, hS _ _ hx, ?_⟩
    simp only [hx]
    rfl
  · obtain ⟨x, hx⟩ := has_at (st := st) (i := sa + i) (by lia)
    obtain ⟨y, hy⟩ := has_at (st := st) (i := sa + j) (by lia)
    simp only [hx, hy] at hb ⊢
    have e1 := sA i j x y hij hj hx hy
    have e2 : L y0 y = false := by simpa using hb
    rw [O.tr x y y0 (hS _ _ hx) (hS _ _ hy) Sy e1 e2]; rfl
  have A1 : ∀ (i : Nat) x, i < k → (arrOf st)[sa + i]? = some x → L y0 x = false := fun i x hi hx => by
    have := kt i hi
    simp only [hx] at this
    simpa using this
  have A2 : ∀ (i : Nat) x, k ≤ i → i < na → (arrOf st)[sa + i]? = some x → L y0 x = true := fun i x h3 h4 hx => by
    have := kf i h3 h4
    simp only [hx] at this
    simpa using this
  dsimp only
  by_cases hk0 : (na - k == 0) = true
  · rw [if_pos hk0]
    have ek : k = na := by have : na - k = 0 := by simpa using hk0
                           lia
    refine wpS_pure (hQ _ ⟨hk, rfl, hf, Array.Perm.refl _, fun _ _ => rfl, hS, sA.glue O hS sB (fun x y hx hy => ?_) (by lia) hz⟩)
    rw [hy0] at hy; cases hy
    exact A1 (na - 1) x (by lia) hx
  · rw [if_neg hk0]
    have hkl : k < na := by have : na - k ≠ 0 := by simpa using hk0
                            lia
    have hz0' : (arrOf st)[sa + k + (na - k) - 1]? = some z0 := by rw [show sa + k + (na - k) - 1 = sa + (na - 1) by lia]; exact hz0
    refine wpS_bind (wpS_elem hz0' ?_)
    have Sz := hS _ _ hz0
    refine wpS_bind (gallop_spec O (left := true) (b := fun i => match (arrOf st)[sa + na + i]? with | some x => L x z0 | none => false) hk Sz (fun i hi => ?_) (fun i j hij hj hb => ?_) (by lia) (fun m hmn mt mf => ?_))
    · obtain ⟨x, hx⟩ := has_at (st := st) (i := sa + na + i) (by lia)
      refine ⟨x, hx, hS _ _ hx, ?_⟩
      simp only [hx]
      rfl
    · obtain ⟨x, hx⟩ := has_at (st := st) (i := sa + na + i) (by lia)
      obtain ⟨y, hy⟩ := has_at (st := st) (i := sa + na + j) (by lia)
      simp only [hx, hy] at hb ⊢
      have e1 := sB i j x y hij hj hx hy
      cases q : L x z0 with
      | true => rfl
      | false =>
        have := O.tr z0 x y Sz (hS _ _ hx) (hS _ _ hy) q e1
        rw [hb] at this; cases this
    have B1 : ∀ (i : Nat) y, i < m → (arrOf st)[sa + na + i]? = some y → L y z0 = true := fun i y hi hy => by
      have := mt i hi
      simp only [hy] at this
      exact this
    have B2 : ∀ (i : Nat) y, m ≤ i → i < nb → (arrOf st)[sa + na + i]? = some y → L y z0 = false := fun i y h3 h4 hy => by
      have := mf i h3 h4
      simp only [hy] at this
      exact this
    dsimp only
    have y0z : L y0 z0 = true := A2 (na - 1) z0 (by lia) (by lia) hz0
    have hm0 : 0 < m := by
      rcases Nat.eq_zero_or_pos m with q | q
      · have := B2 0 y0 (by lia) (by lia) (by simpa using hy0)
        rw [y0z] at this; cases this
      · exact q
    rw [if_neg (by simp; lia)]
    have exA : sa + na = sa + k + (na - k) := by lia
    have hX : ((arrOf st).extract (sa + k) (sa + na)) = (arrOf st).extract (sa + k) (sa + k + (na - k)) := by rw [← exA]
    have sA' : Seg L (arrOf st) (sa + k) (na - k) := fun i j x y hij hj hx hy => sA (k + i) (k + j) x y (by lia) (by lia) (by rw [show sa + (k + i) = sa + k + i by lia]; exact hx) (by rw [show sa + (k + j) = sa + k + j by lia]; exact hy)
    have sB' : Seg L (arrOf st) (sa + na) m := fun i j x y hij hj hx hy => sB i j x y hij (by lia) hx hy
    have T : Two S L ((arrOf st).extract (sa + k) (sa + k + (na - k))) ((arrOf st).extract (sa + na) (sa + na + m)) := ⟨seg_pair (by lia) sA', seg_pair (by lia) sB', (fun x hx => by obtain ⟨i, _, e⟩ := ext_mem (by lia) hx; exact hS _ _ e), (fun x hx => by obtain ⟨i, _, e⟩ := ext_mem (by lia) hx; exact hS _ _ e)⟩
    have zA : 0 < ((arrOf st).extract (sa + k) (sa + k + (na - k))).size := by rw [Array.size_extract]; lia
    have zB : 0 < ((arrOf st).extract (sa + na) (sa + na + m)).size := by rw [Array.size_extract]; lia
    have c0 : ∀ y, ((arrOf st).extract (sa + na) (sa + na + m))[0]? = some y → ∀ x ∈ ((arrOf st).extract (sa + k) (sa + k + (na - k))).toList, leOf L y x := fun y hy x hx => by
      rw [ext_get (by lia), if_pos hm0] at hy
      rw [Nat.add_zero, hy0] at hy; cases hy
      obtain ⟨i, hi, e⟩ := ext_mem (by lia) hx
      exact O.as y0 x Sy (hS _ _ e) (A2 (k + i) x (by lia) (by lia) (by rw [show sa + (k + i) = sa + k + i by lia]; exact e))
    have c1 : ∀ z, ((arrOf st).extract (sa + k) (sa + k + (na - k)))[((arrOf st).extract (sa + k) (sa + k + (na - k))).size - 1]? = some z → ∀ x ∈ ((arrOf st).extract (sa + na) (sa + na + m)).toList, leOf L x z := fun z hz' x hx => by
      have es : ((arrOf st).extract (sa + k) (sa + k + (na - k))).size = na - k := by rw [Array.size_extract]; lia
      rw [es, ext_get (by lia), if_pos (by lia), show sa + k + (na - k - 1) = sa + (na - 1) by lia, hz0] at hz'
      cases hz'
      obtain ⟨i, hi, e⟩ := ext_mem (by lia) hx
      exact O.as x z0 (hS _ _ e) Sz (B1 i x hi e)
    by_cases hle : na - k ≤ m
    · rw [if_pos hle]
      refine wpS_bind ?_
      show wpS M A E s (mergeLo' ((arrOf st).extract (sa + k) (sa + na)) ((arrOf st).extract (sa + na) (sa + na + m))) _ _
      rw [hX]
      refine mergeLo_spec O T hk zA zB c0 c1 fun r st2 hr hlk => ?_
      refine wpS_bind (wpS_modify (wpS_bind (wpS_get (wpS_pure ?_))))
      have hf2 : failedOf st2 = none := by rw [hlk.2.2.2]; exact hf
      have := hQ (setArr st2 (wr (arrOf st) (sa + k) r.toList 0)) (SM.write O hna hkl hm0 hmn hz hS sA sB y0 z0 hy0 hz0 A1 B2 hr (by show kindOf st2 = kd; rw [hlk.1]; exact hk) (by show pendingOf st2 = _; rw [hlk.2.2.1]) hf2 rfl)
      have ea : arrOf st2 = arrOf st := hlk.2.1
      rw [← ea] at this
      show Q (failedOf st2).isNone _
      rw [hf2]
      exact this
    · rw [if_neg hle]
      refine wpS_bind ?_
      show wpS M A E s (mergeHi' ((arrOf st).extract (sa + k) (sa + na)) ((arrOf st).extract (sa + na) (sa + na + m))) _ _
      rw [hX]
      refine mergeHi_spec O T hk zA zB c0 c1 fun r st2 hr hlk => ?_
      refine wpS_bind (wpS_modify (wpS_bind (wpS_get (wpS_pure ?_))))
      have hf2 : failedOf st2 = none := by rw [hlk.2.2.2]; exact hf
      have := hQ (setArr st2 (wr (arrOf st) (sa + k) r.toList 0)) (SM.write O hna hkl hm0 hmn hz hS sA sB y0 z0 hy0 hz0 A1 B2 hr (by show kindOf st2 = kd; rw [hlk.1]; exact hk) (by show pendingOf st2 = _; rw [hlk.2.2.1]) hf2 rfl)
      have ea : arrOf st2 = arrOf st := hlk.2.1
      rw [← ea] at this
      show Q (failedOf st2).isNone _
      rw [hf2]
      exact this
end
end TS

set_option maxHeartbeats 8000000
namespace TS
open PySem PyProof.Rows
abbrev Run := Nat × Nat × Nat
section
variable {M : Model} {A : Around} {E : Value → Shared → Prop} {s : Shared} {kd : SortKind} {S : Keyed → Prop} {L : Keyed → Keyed → Bool}
/-- runs in order, one behind the other, each in order -/
def Runs (L : Keyed → Keyed → Bool) (a : Array Keyed) : List Run → Nat → Nat → Prop
  | [], x, y => x = y
  | r :: l, x, y => r.1 = x ∧ 1 ≤ r.2.1 ∧ Seg L a r.1 r.2.1 ∧ Runs L a l (x + r.2.1) y
theorem Runs.le {a : Array Keyed} : ∀ {l : List Run} {x y : Nat}, Runs L a l x y → x + l.length ≤ y
  | [], x, y, h => by have : x = y := h; simp; lia
  | r :: l, x, y, h => by
    have := Runs.le h.2.2.2
    have := h.2.1
    simp only [List.length_cons]; lia
theorem Seg.cong {a b : Array Keyed} {lo n : Nat} (h : Seg L a lo n) (e : ∀ k : Nat, lo ≤ k → k < lo + n → b[k]? = a[k]?) : Seg L b lo n := fun i j x y hij hj hx hy =>
  h i j x y hij hj (by rw [← e _ (by lia) (by lia)]; exact hx) (by rw [← e _ (by lia) (by lia)]; exact hy)
theorem Runs.cong {a b : Array Keyed} : ∀ {l : List Run} {x y : Nat}, Runs L a l x y → (∀ k : Nat, x ≤ k → k < y → b[k]? = a[k]?) → Runs L b l x y
  | [], _, _, h, _ => h
  | r :: l, x, y, h, e => by
    have hl := h.2.2.2.le
    have h1 := h.1
    exact ⟨h.1, h.2.1, h.2.2.1.cong fun k h2 h3 => e k (by lia) (by lia), Runs.cong h.2.2.2 fun k h2 h3 => e k (by lia) h3⟩
theorem Runs.snoc {a : Array Keyed} : ∀ {l : List Run} {x y n pw : Nat}, Runs L a l x y → 1 ≤ n → Seg L a y n → Runs L a (l ++ [(y, n, pw)]) x (y + n)
  | [], x, y, n, pw, h, hn, hs => by
    have : x = y := h
    subst this
    exact ⟨rfl, hn, hs, rfl⟩
  | r :: l, x, y, n, pw, h, hn, hs => ⟨h.1, h.2.1, h.2.2.1, Runs.snoc h.2.2.2 hn hs⟩
/-- two neighbours -/
theorem Runs.pair {a : Array Keyed} : ∀ {l : List Run} {x y i sa na pw sb nb pw2 : Nat}, Runs L a l x y → l[i]? = some (sa, na, pw) → l[i + 1]? = some (sb, nb, pw2) →
    sb = sa + na ∧ 1 ≤ na ∧ 1 ≤ nb ∧ x ≤ sa ∧ sa + na + nb ≤ y ∧ Seg L a sa na ∧ Seg L a (sa + na) nb ∧
    ∀ b : Array Keyed, (∀ k : Nat, k < sa ∨ sa + na + nb ≤ k → b[k]? = a[k]?) → Seg L b sa (na + nb) → Runs L b ((l.set i (sa, na + nb, pw)).eraseIdx (i + 1)) x y
  | [], _, _, _, _, _, _, _, _, _, _, h1, _ => by simp at h1
  | [_], _, _, i, _, _, _, _, _, _, _, _, h2 => by simp at h2
  | r :: q :: l, x, y, 0, sa, na, pw, sb, nb, pw2, h, h1, h2 => by
    have e1 : r = (sa, na, pw) := Option.some.inj h1
    have e2 : q = (sb, nb, pw2) := Option.some.inj h2
    subst e1; subst e2
    obtain ⟨a1, a2, a3, b1, b2, b3, hr⟩ := h
    simp only at a1 a2 a3 b1 b2 b3 hr
    subst a1
    have hl := hr.le
    refine ⟨b1, a2, b2, Nat.le_refl _, by lia, a3, by rw [← b1]; exact b3, fun b hb hs => ⟨rfl, by show 1 ≤ na + nb; lia, hs, ?_⟩⟩
    show Runs L b l (sa + (na + nb)) y
    rw [show sa + (na + nb) = sa + na + nb by lia]
    exact hr.cong fun k h3 h4 => hb k (.inr h3)
  | r :: q :: l, x, y, i + 1, sa, na, pw, sb, nb, pw2, h, h1, h2 => by
    obtain ⟨a1, a2, a3, hr⟩ := h
    obtain ⟨c1, c2, c3, c4, c5, c6, c7, c8⟩ := Runs.pair hr (i := i) (by simpa using h1) (by simpa using h2)
    refine ⟨c1, c2, c3, by lia, c5, c6, c7, fun b hb hs => ⟨a1, a2, a3.cong fun k h3 h4 => hb k (.inl (by lia)), ?_⟩⟩
    exact c8 b hb hs
/-- the state between -/
structure PD (kd : SortKind) (S : Keyed → Prop) (L : Keyed → Keyed → Bool) (a0 : Array Keyed) (st : SortSt) (lo : Nat) : Prop where
  kind : kindOf st = kd
  fail : failedOf st = none
  perm : (arrOf st).Perm a0
  all : ∀ (k : Nat) x, (arrOf st)[k]? = some x → S x
  runs : Runs L (arrOf st) (pendingOf st).toList 0 lo
theorem PD.size {a0 : Array Keyed} {st : SortSt} {lo : Nat} (h : PD kd S L a0 st lo) : (arrOf st).size = a0.size := h.perm.size_eq
theorem PD.merge (O : LtOk M A E s kd S L) {a0 : Array Keyed} {st : SortSt} {lo i : Nat} {Q : Bool → SortSt → Prop} (h : PD kd S L a0 st lo) (hlo : lo ≤ a0.size) (hi : i + 1 < (pendingOf st).size)
    (hQ : ∀ st', PD kd S L a0 st' lo → (pendingOf st').size + 1 = (pendingOf st).size → (∀ k : Nat, lo ≤ k → (arrOf st')[k]? = (arrOf st)[k]?) → Q true st') : wpS M A E s (mergeAt' i) Q st := by
  obtain ⟨⟨sa, na, pw⟩, h1⟩ : ∃ r, (pendingOf st)[i]? = some r := ⟨_, Array.getElem?_eq_getElem (by lia)⟩
  obtain ⟨⟨sb, nb, pw2⟩, h2⟩ : ∃ r, (pendingOf st)[i + 1]? = some r := ⟨_, Array.getElem?_eq_getElem hi⟩
  obtain ⟨c1, c2, c3, c4, c5, c6, c7, c8⟩ := h.runs.pair (i := i) (by rw [Array.getElem?_toList]; exact h1) (by rw [Array.getElem?_toList]; exact h2)
  subst c1
  refine mergeAt_spec O h1 h2 c2 c3 (by rw [h.size]; lia) h.kind h.fail h.all c6 c7 fun st' sm => hQ st' ⟨sm.kind, sm.fail, sm.perm.trans h.perm, sm.all, ?_⟩ ?_ fun k hk => sm.out k (by lia)
  · rw [sm.pend]
    have e : (((pendingOf st).setIfInBounds i (sa, na + nb, pw)).eraseIdxIfInBounds (i + 1)).toList = ((pendingOf st).toList.set i (sa, na + nb, pw)).eraseIdx (i + 1) := by simp
    rw [e]
    exact c8 _ (fun k hk => sm.out k (by lia)) sm.seg
  · rw [sm.pend]
    have e : (((pendingOf st).setIfInBounds i (sa, na + nb, pw)).eraseIdxIfInBounds (i + 1)).toList = ((pendingOf st).toList.set i (sa, na + nb, pw)).eraseIdx (i + 1) := by simp
    have e2 := congrArg List.length e
    rw [List.length_eraseIdx_of_lt (by rw [List.length_set, Array.length_toList]; exact hi), List.length_set, Array.length_toList, Array.length_toList] at e2
    lia
end
end TS

/-! sorted(list, key = a def), any length. -/
namespace L2
open PySem PySem.Spec PyProof.Rows
section
variable {X : Cx} {pins : List (Addr × Obj)} {σ : St} {H : Hp} {s : Shared} {D st : Addr} {e : Nat} {κV : Nat → List V} {ks : List Addr} {E : Value → Shared → Prop}
end
end L2

namespace L2
open PySem PySem.Spec PyProof.Rows
section
variable {X : Cx} {x : Str} {p pos kp kpos : Pos} {e : Expr} {te : TE} {k : Nat} {f : Addr} {fd : FuncData} {ps : List Str} {sp : Sp} {fn : Str}
end
end L2

/-! A comprehension with two clauses. -/
namespace L2
open PySem PySem.Spec PyProof.Rows
section
variable {prog : Program} {w : World} {A : Around} {R : Result → Shared → Prop} {s : Shared}
end
section
variable {X : Cx} {osc : Scope} {N : List Str} {sc : Scope} {N' : List Str} {sel : List (Option Nat)} {pos : Pos} {elt kx vx tg iter tg2 iter2 : Expr} {ifs ifs2 : List Expr} {wi wi2 : TI} {g g2 : TG} {tt tt2 : TT} {te tk tv : TE}
end
end L2

/-! Edges, the one behind an edge, and that a walk comes back: without the program. -/
namespace RP
/-- the eight moves -/
def mv (i : Nat) : Int × Int := ([(1, 0), (1, 1), (0, 1), (-1, 1), (-1, 0), (-1, -1), (0, -1), (1, -1)] : List (Int × Int)).getD i (0, 0)
abbrev Cell := Int × Int
def go (c : Cell) (i : Nat) : Cell := (c.1 + (mv i).1, c.2 + (mv i).2)
structure Edge where
  c : Cell
  w : Nat
  deriving DecidableEq
def gap (e : Edge) : Cell := go e.c ((2 * e.w + 6) % 8)
def stepB (C : Cell → Bool) (e : Edge) : Option Nat :=
  if C (go e.c ((2 * e.w + 7) % 8)) = true then some ((2 * e.w + 7) % 8) else if C (go e.c (2 * e.w)) = true then some (2 * e.w) else none
def edgeB (e : Edge) : Option Nat → Edge
  | none => ⟨e.c, (e.w + 1) % 4⟩
  | some s => if s % 2 = 1 then ⟨go e.c s, (e.w + 3) % 4⟩ else ⟨go e.c s, e.w⟩
def nxt (C : Cell → Bool) (e : Edge) : Edge := edgeB e (stepB C e)
def IsE (C : Cell → Bool) (e : Edge) : Prop := e.w < 4 ∧ C e.c = true ∧ C (gap e) = false
def prv (C : Cell → Bool) (f : Edge) : Edge :=
  if C (go f.c ((2 * f.w + 5) % 8)) = true then ⟨go f.c ((2 * f.w + 5) % 8), (f.w + 1) % 4⟩
  else if C (go f.c ((2 * f.w + 4) % 8)) = true then ⟨go f.c ((2 * f.w + 4) % 8), f.w⟩ else ⟨f.c, (f.w + 3) % 4⟩
theorem way4 {w : Nat} (h : w < 4) : w = 0 ∨ w = 1 ∨ w = 2 ∨ w = 3 := by omega
def mvAdd (a b d : Nat) : Bool := (mv a).1 + (mv b).1 == (mv d).1 && (mv a).2 + (mv b).2 == (mv d).2
def mvNil (a b : Nat) : Bool := (mv a).1 + (mv b).1 == 0 && (mv a).2 + (mv b).2 == 0
theorem go_go {c : Cell} {a b d : Nat} (h : mvAdd a b d = true) : go (go c a) b = go c d := by
  unfold mvAdd at h
  simp only [Bool.and_eq_true, beq_iff_eq] at h
  unfold go
  exact Prod.ext (by show c.1 + (mv a).1 + (mv b).1 = c.1 + (mv d).1; omega) (by show c.2 + (mv a).2 + (mv b).2 = c.2 + (mv d).2; omega)
theorem go_back {c : Cell} {a b : Nat} (h : mvNil a b = true) : go (go c a) b = c := by
  unfold mvNil at h
  simp only [Bool.and_eq_true, beq_iff_eq] at h
  unfold go
  exact Prod.ext (by show c.1 + (mv a).1 + (mv b).1 = c.1; omega) (by show c.2 + (mv a).2 + (mv b).2 = c.2; omega)
theorem f1 : ∀ w < 4, mvAdd ((2 * w + 7) % 8) ((2 * ((w + 3) % 4) + 6) % 8) ((2 * w + 6) % 8) = true := by decide
theorem f2 : ∀ w < 4, mvAdd (2 * w) ((2 * w + 6) % 8) ((2 * w + 7) % 8) = true := by decide
theorem f3 : ∀ w < 4, (2 * ((w + 1) % 4) + 6) % 8 = 2 * w := by decide
theorem f4 : ∀ w < 4, mvNil ((2 * w + 7) % 8) ((2 * ((w + 3) % 4) + 5) % 8) = true := by decide
theorem f5 : ∀ w < 4, mvAdd (2 * w) ((2 * w + 5) % 8) ((2 * w + 6) % 8) = true := by decide
theorem f6 : ∀ w < 4, mvNil (2 * w) ((2 * w + 4) % 8) = true := by decide
theorem f7 : ∀ w < 4, (2 * ((w + 1) % 4) + 5) % 8 = (2 * w + 7) % 8 := by decide
theorem f8 : ∀ w < 4, (2 * ((w + 1) % 4) + 4) % 8 = (2 * w + 6) % 8 := by decide
theorem odd7 (w : Nat) : (2 * w + 7) % 8 % 2 = 1 := by omega
/-- the three ways on -/
theorem nxt_cases {C : Cell → Bool} {e : Edge} (h : IsE C e) :
    (C (go e.c ((2 * e.w + 7) % 8)) = true ∧ stepB C e = some ((2 * e.w + 7) % 8) ∧ nxt C e = ⟨go e.c ((2 * e.w + 7) % 8), (e.w + 3) % 4⟩) ∨
    (C (go e.c ((2 * e.w + 7) % 8)) = false ∧ C (go e.c (2 * e.w)) = true ∧ stepB C e = some (2 * e.w) ∧ nxt C e = ⟨go e.c (2 * e.w), e.w⟩) ∨
    (C (go e.c ((2 * e.w + 7) % 8)) = false ∧ C (go e.c (2 * e.w)) = false ∧ stepB C e = none ∧ nxt C e = ⟨e.c, (e.w + 1) % 4⟩) := by
  unfold nxt stepB
  by_cases h1 : C (go e.c ((2 * e.w + 7) % 8)) = true
  · left
    rw [if_pos h1]
    exact ⟨h1, rfl, by simp only [edgeB]; rw [if_pos (odd7 _)]⟩
  · right
    have h1' : C (go e.c ((2 * e.w + 7) % 8)) = false := by simpa using h1
    rw [if_neg h1]
    by_cases h2 : C (go e.c (2 * e.w)) = true
    · left
      rw [if_pos h2]
      exact ⟨h1', h2, rfl, by simp only [edgeB]; rw [if_neg (by omega)]⟩
    · right
      rw [if_neg h2]
      exact ⟨h1', by simpa using h2, rfl, rfl⟩
theorem nxt_ok {C : Cell → Bool} {e : Edge} (h : IsE C e) : IsE C (nxt C e) := by
  obtain ⟨hw, hc, hg⟩ := id h
  rcases nxt_cases h with ⟨h1, _, q⟩ | ⟨h1, h2, _, q⟩ | ⟨h1, h2, _, q⟩ <;> rw [q]
  · refine ⟨Nat.mod_lt _ (by decide), h1, ?_⟩
    unfold gap
    rw [go_go (f1 _ hw)]
    exact hg
  · refine ⟨hw, h2, ?_⟩
    unfold gap
    rw [go_go (f2 _ hw)]
    exact h1
  · refine ⟨Nat.mod_lt _ (by decide), hc, ?_⟩
    unfold gap
    simp only
    rw [f3 _ hw]
    exact h2
theorem prv_nxt {C : Cell → Bool} {e : Edge} (h : IsE C e) : prv C (nxt C e) = e := by
  obtain ⟨hw, hc, hg⟩ := id h
  unfold gap at hg
  rcases nxt_cases h with ⟨h1, _, q⟩ | ⟨h1, h2, _, q⟩ | ⟨h1, h2, _, q⟩ <;> rw [q] <;> unfold prv <;> simp only
  · rw [go_back (f4 _ hw), if_pos hc]
    rw [show ((e.w + 3) % 4 + 1) % 4 = e.w by omega]
  · rw [go_go (f5 _ hw), hg, if_neg (by decide), go_back (f6 _ hw), if_pos hc]
  · rw [f7 _ hw, h1, if_neg (by decide), f8 _ hw, hg, if_neg (by decide)]
    rw [show ((e.w + 1) % 4 + 3) % 4 = e.w by omega]
theorem nxt_inj {C : Cell → Bool} {e f : Edge} (he : IsE C e) (hf : IsE C f) (h : nxt C e = nxt C f) : e = f := by
  rw [← prv_nxt he, ← prv_nxt hf, h]

/-! ### a walk -/
/-- the edges of a walk: from b on each the one behind the one ahead of it -/
def Chain (C : Cell → Bool) (b : Edge) (es : List Edge) : Prop := es[0]? = some b ∧ (∀ i e f, es[i]? = some e → es[i + 1]? = some f → f = nxt C e) ∧ (∀ e ∈ es, IsE C e) ∧ es.Nodup
theorem Chain.start {C : Cell → Bool} {b : Edge} (h : IsE C b) : Chain C b [b] :=
  ⟨rfl, fun i e f _ h2 => by simp at h2, fun e he => by rw [List.mem_singleton.mp he]; exact h, by simp⟩
/-- the edge behind the last, if it isn't the begin, is a new one -/
theorem Chain.more {C : Cell → Bool} {b l : Edge} {es : List Edge} (h : Chain C b (es ++ [l])) (hn : nxt C l ≠ b) : Chain C b ((es ++ [l]) ++ [nxt C l]) := by
  obtain ⟨h0, hs, hE, hnd⟩ := h
  have hl : (es ++ [l])[es.length]? = some l := by simp
  have lE := hE l (by simp)
  refine ⟨?_, fun i e f h1 h2 => ?_, fun e he => ?_, ?_⟩
  · rw [List.getElem?_append_left (by simp)]; exact h0
  · rcases Nat.lt_or_ge (i + 1) (es ++ [l]).length with hi | hi
    · rw [List.getElem?_append_left (by omega)] at h1
      rw [List.getElem?_append_left hi] at h2
      exact hs i e f h1 h2
    · have hi2 := (List.getElem?_eq_some_iff.mp h2).1
      simp at hi2 hi
      have hi3 : i = es.length := by omega
      subst hi3
      rw [List.getElem?_append_left (by simp)] at h1
      rw [hl] at h1
      cases h1
      rw [List.getElem?_append_right (by simp)] at h2
      simp at h2
      exact h2.symm
  · rcases List.mem_append.mp he with he | he
    · exact hE e he
    · rw [List.mem_singleton.mp he]; exact nxt_ok lE
  · rw [List.nodup_append]
    refine ⟨hnd, by simp, fun x hx y hy => ?_⟩
    rw [List.mem_singleton.mp hy]
    intro e
    subst e
    obtain ⟨i, hi, ei⟩ := List.getElem_of_mem hx
    rcases Nat.eq_zero_or_pos i with rfl | hp
    · rw [List.getElem?_eq_getElem hi, ei] at h0
      exact hn (Option.some.inj h0)
    · have hi' : i - 1 < (es ++ [l]).length := by omega
      have e1 := hs (i - 1) ((es ++ [l])[i - 1]) (nxt C l) (List.getElem?_eq_getElem hi') (by rw [show i - 1 + 1 = i by omega, List.getElem?_eq_getElem hi, ei])
      have e2 := nxt_inj lE (hE _ (List.getElem_mem hi')) e1
      have e3 : es.length = i - 1 := (List.getElem?_inj (by simp) hnd).mp (by rw [hl, List.getElem?_eq_getElem hi', ← e2])
      simp at hi
      omega
end RP

namespace RP
theorem length_le_of_nodup {α : Type} [DecidableEq α] : ∀ {a b : List α}, a.Nodup → (∀ x ∈ a, x ∈ b) → a.length ≤ b.length
  | [], _, _, _ => Nat.zero_le _
  | x :: a, b, hn, hs => by
    have hx : x ∈ b := hs x List.mem_cons_self
    have h1 := length_le_of_nodup (a := a) (b := b.erase x) (List.nodup_cons.mp hn).2 (fun y hy => by
      refine (List.mem_erase_of_ne ?_).mpr (hs y (List.mem_cons_of_mem _ hy))
      intro e; subst e; exact (List.nodup_cons.mp hn).1 hy)
    rw [List.length_erase_of_mem hx] at h1
    have : 0 < b.length := List.length_pos_of_mem hx
    simp only [List.length_cons]
    lia
/-- all edges that the cells might have -/
def sides (cs : List Cell) : List Edge := cs.flatMap fun c => (List.range 4).map fun w => ⟨c, w⟩
theorem sides_length (cs : List Cell) : (sides cs).length = 4 * cs.length := by
  unfold sides
  induction cs with
  | nil => rfl
  | cons c r ih => rw [List.flatMap_cons, List.length_append, ih]; simp; lia
theorem mem_sides {cs : List Cell} {e : Edge} : e ∈ sides cs ↔ e.c ∈ cs ∧ e.w < 4 := by
  unfold sides
  rw [List.mem_flatMap]
  constructor
  · rintro ⟨c, hc, h⟩
    obtain ⟨w, hw, rfl⟩ := List.mem_map.mp h
    exact ⟨hc, List.mem_range.mp hw⟩
  · rintro ⟨hc, hw⟩
    exact ⟨e.c, hc, List.mem_map.mpr ⟨e.w, List.mem_range.mpr hw, rfl⟩⟩
def isIn (cs : List Cell) (c : Cell) : Bool := decide (c ∈ cs)
theorem Chain.short {cs : List Cell} {b : Edge} {es : List Edge} (h : Chain (isIn cs) b es) : es.length ≤ 4 * cs.length := by
  rw [← sides_length]
  exact length_le_of_nodup h.2.2.2 fun e he => mem_sides.mpr ⟨of_decide_eq_true (h.2.2.1 e he).2.1, (h.2.2.1 e he).1⟩
/-! ### a closed walk goes every way -/
def dx (w : Nat) : Int := if w = 0 then 1 else if w = 2 then -1 else 0
def dy (w : Nat) : Int := if w = 1 then 1 else if w = 3 then -1 else 0
def px (e : Edge) : Int := e.c.1 + (if e.w = 1 ∨ e.w = 2 then 1 else 0)
def py (e : Edge) : Int := e.c.2 + (if e.w = 2 ∨ e.w = 3 then 1 else 0)
theorem p_next {C : Cell → Bool} {e : Edge} (h : IsE C e) : px (nxt C e) = px e + dx e.w ∧ py (nxt C e) = py e + dy e.w := by
  have hw := h.1
  rcases nxt_cases h with ⟨_, _, q⟩ | ⟨_, _, _, q⟩ | ⟨_, _, _, q⟩ <;> rw [q] <;> obtain ⟨c, w⟩ := e <;> simp only at hw <;>
    rcases way4 hw with rfl | rfl | rfl | rfl <;> simp [px, py, dx, dy, go, mv] <;> lia
theorem w_next {C : Cell → Bool} {e : Edge} (h : IsE C e) : (nxt C e).w = (e.w + 3) % 4 ∨ (nxt C e).w = e.w ∨ (nxt C e).w = (e.w + 1) % 4 := by
  rcases nxt_cases h with ⟨_, _, q⟩ | ⟨_, _, _, q⟩ | ⟨_, _, _, q⟩ <;> rw [q]
  · exact .inl rfl
  · exact .inr (.inl rfl)
  · exact .inr (.inr rfl)
def Closed (C : Cell → Bool) (b : Edge) (es : List Edge) : Prop := Chain C b es ∧ ∃ l, es[es.length - 1]? = some l ∧ nxt C l = b
theorem psum {C : Cell → Bool} {b : Edge} {es : List Edge} (h : Chain C b es) : ∀ i e, es[i]? = some e → px e = px b + ((es.take i).map fun e => dx e.w).sum ∧ py e = py b + ((es.take i).map fun e => dy e.w).sum
  | 0, e, he => by
    have h0 := h.1
    rw [he] at h0
    cases h0
    simp
  | i + 1, e, he => by
    have hi : i + 1 < es.length := (List.getElem?_eq_some_iff.mp he).1
    have h1 : es[i]? = some es[i] := List.getElem?_eq_getElem (by lia)
    obtain ⟨a, c⟩ := psum h i _ h1
    have hn := h.2.1 i _ e h1 he
    obtain ⟨p, q⟩ := p_next (h.2.2.1 _ (List.getElem_mem (show i < es.length by lia)))
    rw [← hn] at p q
    rw [List.take_succ, h1]
    simp only [Option.toList_some, List.map_append, List.map_cons, List.map_nil, List.sum_append, List.sum_cons, List.sum_nil]
    lia
theorem Closed.sums {C : Cell → Bool} {b : Edge} {es : List Edge} (h : Closed C b es) : (es.map fun e => dx e.w).sum = 0 ∧ (es.map fun e => dy e.w).sum = 0 := by
  obtain ⟨hc, l, hl, hb⟩ := h
  have hlt := (List.getElem?_eq_some_iff.mp hl).1
  obtain ⟨a, c⟩ := psum hc _ l hl
  have hlm := (List.getElem?_eq_some_iff.mp hl).2
  obtain ⟨p, q⟩ := p_next (hc.2.2.1 l (by rw [← hlm]; exact List.getElem_mem _))
  rw [hb] at p q
  have e : es = es.take (es.length - 1) ++ [l] := by
    have := List.take_succ (l := es) (i := es.length - 1)
    rw [hl, show es.length - 1 + 1 = es.length by lia, List.take_length] at this
    simpa using this
  have s1 : (es.map fun e => dx e.w).sum = ((es.take (es.length - 1)).map fun e => dx e.w).sum + dx l.w := by
    conv => lhs; rw [e]
    simp
  have s2 : (es.map fun e => dy e.w).sum = ((es.take (es.length - 1)).map fun e => dy e.w).sum + dy l.w := by
    conv => lhs; rw [e]
    simp
  lia
theorem sum_nonneg {l : List Int} (h : ∀ x ∈ l, 0 ≤ x) : 0 ≤ l.sum := by
  induction l with
  | nil => simp
  | cons a r ih =>
    have := h a List.mem_cons_self
    have := ih fun x hx => h x (List.mem_cons_of_mem _ hx)
    simp only [List.sum_cons]; lia
theorem sum_zero {l : List Int} (h : ∀ x ∈ l, 0 ≤ x) (hs : l.sum = 0) : ∀ x ∈ l, x = 0 := by
  induction l with
  | nil => intro x hx; cases hx
  | cons a r ih =>
    have h1 := h a List.mem_cons_self
    have h2 := sum_nonneg fun x hx => h x (List.mem_cons_of_mem _ hx)
    simp only [List.sum_cons] at hs
    intro x hx
    rcases List.mem_cons.mp hx with rfl | hx
    · lia
    · exact ih (fun x hx => h x (List.mem_cons_of_mem _ hx)) (by lia) x hx
theorem neg_sum (l : List Int) : (l.map fun x => -x).sum = -l.sum := by
  induction l with
  | nil => rfl
  | cons a r ih => simp only [List.map_cons, List.sum_cons, ih]; lia
theorem const_sum (l : List Int) (d : Int) (h : ∀ x ∈ l, x = d) : l.sum = d * l.length := by
  induction l with
  | nil => simp
  | cons a r ih =>
    have h1 := h a List.mem_cons_self
    have h2 := ih fun x hx => h x (List.mem_cons_of_mem _ hx)
    simp only [List.sum_cons, List.length_cons, h1, h2]
    rw [Int.natCast_add, Int.mul_add]; lia
theorem Closed.has {C : Cell → Bool} {b : Edge} {es : List Edge} (h : Closed C b es) {k : Nat} (hk : k = 0 ∨ k = 2) : ∃ e ∈ es, e.w = k := by
  apply Classical.byContradiction
  intro hno
  have hno' : ∀ e ∈ es, e.w ≠ k := fun e he z => hno ⟨e, he, z⟩
  obtain ⟨s1, s2⟩ := h.sums
  obtain ⟨hc, _⟩ := h
  have hpos : 0 < es.length := by
    have := hc.1
    exact (List.getElem?_eq_some_iff.mp this).1
  have z : ∀ e ∈ es, dx e.w = 0 := by
    rcases hk with rfl | rfl
    · have := sum_zero (l := (es.map fun e => dx e.w).map fun x => -x) (fun x hx => by
        obtain ⟨y, hy, rfl⟩ := List.mem_map.mp hx
        obtain ⟨e, he, rfl⟩ := List.mem_map.mp hy
        have := hno' e he
        unfold dx
        rw [if_neg this]
        split <;> decide) (by rw [neg_sum, s1]; rfl)
      intro e he
      have := this (-(dx e.w)) (List.mem_map.mpr ⟨_, List.mem_map.mpr ⟨e, he, rfl⟩, rfl⟩)
      lia
    · have := sum_zero (l := es.map fun e => dx e.w) (fun x hx => by
        obtain ⟨e, he, rfl⟩ := List.mem_map.mp hx
        have := hno' e he
        unfold dx
        rw [if_neg this]
        split <;> decide) s1
      intro e he
      exact this _ (List.mem_map.mpr ⟨e, he, rfl⟩)
  have odd : ∀ e ∈ es, e.w = 1 ∨ e.w = 3 := fun e he => by
    have h4 := (hc.2.2.1 e he).1
    have hz := z e he
    rcases way4 h4 with q | q | q | q
    · rw [q] at hz; exact absurd hz (by decide)
    · exact .inl q
    · rw [q] at hz; exact absurd hz (by decide)
    · exact .inr q
  have same : ∀ (i : Nat) (e : Edge), es[i]? = some e → e.w = b.w := by
    intro i
    induction i with
    | zero => intro e he; have := hc.1; rw [he] at this; cases this; rfl
    | succ i ih =>
      intro e he
      have hi : i + 1 < es.length := (List.getElem?_eq_some_iff.mp he).1
      have h1 : es[i]? = some es[i] := List.getElem?_eq_getElem (by lia)
      have hn := hc.2.1 i _ e h1 he
      have m1 : es[i] ∈ es := List.getElem_mem _
      have m2 : e ∈ es := List.mem_of_getElem? he
      have w1 := ih _ h1
      have o1 := odd _ m1
      have o2 := odd _ m2
      have := w_next (hc.2.2.1 _ m1)
      rw [← hn] at this
      lia
  have all : ∀ x ∈ es.map (fun e => dy e.w), x = dy b.w := fun x hx => by
    obtain ⟨e, he, rfl⟩ := List.mem_map.mp hx
    obtain ⟨i, hi, ei⟩ := List.getElem_of_mem he
    rw [same i e (by rw [List.getElem?_eq_getElem hi, ei])]
  have t := const_sum _ _ all
  rw [s2, List.length_map] at t
  have ob : b.w = 1 ∨ b.w = 3 := by
    have := hc.1
    exact odd b (List.mem_of_getElem? this)
  have d1 : dy b.w = 1 ∨ dy b.w = -1 := by
    rcases ob with q | q <;> rw [q] <;> decide
  rcases d1 with q | q <;> rw [q] at t <;> lia
end RP

namespace L2
open PySem PySem.Spec PyProof.Rows
/-- a def of the program with its promise -/
structure Fn (P : Program) (w : World) (K : PySem.W.Frag) (mg : Str → Option Value) (base : Heap) (k : Nat) (x : Str) (ps : List Str) (sp : Sp) where
  f : Addr
  fd : FuncData
  ok : FnOk P w K mg base CX0 k f fd ps sp
  m : mg x = some (.ref f)
  kp : PySem.W.keepIn K (.ref f) = true
  b : Binds K fd ps []
/-- a def of the program as it stands -/
structure Df (K : PySem.W.Frag) (mg : Str → Option Value) (x : Str) (st : Stmt) (ps : List Str) where
  f : Addr
  fd : FuncData
  F : Fun K x x st f fd
  m : mg x = some (.ref f)
  b : Binds K fd ps []
def Df.fn {P : Program} {w : World} {K : PySem.W.Frag} {mg : Str → Option Value} {base : Heap} {k : Nat} {x : Str} {st : Stmt} {ps : List Str} {sp : Sp} (d : Df K mg x st ps) (h : FnOk P w K mg base CX0 k d.f d.fd ps sp) : Fn P w K mg base k x ps sp :=
  ⟨d.f, d.fd, h, d.m, d.F.kp, d.b⟩
/-! ### a dict of two texts that stands in the module -/
structure Ways (P : Program) (w : World) (K : PySem.W.Frag) (mg : Str → Option Value) : Prop where
  ex : ∃ (B : Addr) (t1 t2 t3 t4 : Tok) (n : Nat), mg "BEGIN_WAYS" = some (.ref B) ∧ K.lookup B = some ⟨.type "dict", none, .dict #[⟨PyData.keyHash w.params "rim", .str "rim" t1, .int 0 t2⟩, ⟨PyData.keyHash w.params "hole", .str "hole" t3, .int 2 t4⟩] n, #[]⟩
end L2

/-! The rules that speak of the written part, with it named: for use within a comprehension's block. -/
namespace L2
open PySem PySem.Spec PyProof.Rows
section
variable {X : Cx} {K : PySem.W.Frag}

end
end L2

/-! min of four ints; a tuple's slice, the whole too. -/
namespace L2
open PySem PySem.Spec PyProof.Rows
section
variable {X : Cx}
end
end L2
namespace HT
open PySem PyProof.Rows
variable {prog : Program} {w : World} {A : Around} {E : Value → Shared → Prop} {s : Shared}
end HT
namespace L2
open PySem PySem.Spec PyProof.Rows
section
variable {X : Cx} {K : PySem.W.Frag}
end
end L2

/-! t[::-1] of a pair; products of great ints. -/
namespace HT
open PySem PyProof.Rows
variable {prog : Program} {w : World} {A : Around} {E : Value → Shared → Prop} {s : Shared}
theorem sliceApplied_rev {sl : Addr} {t : Tok} {Q : Int × Int × Nat → Shared → Prop} (hs : s.heap.IsSliceOf sl .none .none (.int (-1) t))
    (h : Q (1, -1, 2) s) : wpAny (model prog w) A (Builtin.Slice.sliceApplied (.ref sl) (pure ((2 : Nat) : Int))) Q E s := by
  obtain ⟨os, hos, hcs, hds⟩ := id hs
  unfold Builtin.Slice.sliceApplied Builtin.Slice.sliceFields
  refine wpAny_bind (wpAny_bind (wpAny_field hos hds (x := .none) rfl (wpAny_bind (wpAny_field hos hds (x := .none) rfl (wpAny_bind (wpAny_field hos hds (x := .int (-1) t) rfl (wpAny_pure ?_)))))))
  refine wpAny_bind (slicePart_int ?_)
  show wpAny _ _ (if ((-1 : Int) == 0) = true then _ else _) _ _ s
  rw [if_neg (by decide)]
  refine wpAny_bind (slicePart_none (wpAny_bind (slicePart_none (wpAny_bind (wpAny_pure ?_)))))
  exact wpAny_pure h
theorem getItem_tuple_rev {t sl : Addr} {u v : Value} {tk : Tok} {Q : Value → Shared → Prop} (ht : IsTup s.heap t #[u, v]) (hs : s.heap.IsSliceOf sl .none .none (.int (-1) tk))
    (h : Q (.ref s.heap.objs.size) { s with heap := s.heap.push { cls := .type "tuple", data := .seq #[v, u] } }) : wpAny (model prog w) A (getItem (.ref t) (.ref sl)) Q E s := by
  obtain ⟨os, hos, hcs, hds⟩ := id hs
  have hTs : s.TypeIs (.ref sl) "slice" := ⟨os, hos, hcs⟩
  unfold getItem
  try with_reducible refine wpAny_holding ?_
  first | refine wpAny_bind (wpAny_pure ?_) | skip
  refine wpAny_bind (wpAny_sequenceKey ht.typeIs (by decide) ?_)
  refine wpAny_bind (wpAny_callSpecial?_slot (name := Str.ofString "__getitem__") ht.typeIs PyProof.Rows.slot_tuple_getitem
    (wpAny_call_entry PyProof.Rows.slot_tuple_getitem ht.typeIs entry_tuple_getitem ?_ (args_tuple_getitem _ _)))
  show wpAny _ _ (Builtin.Tuple.tupleItemsOf (.ref t) >>= _) _ _ s
  refine wpAny_bind (tupleItemsOf_ ht ?_)
  refine wpAny_bind (wpAny_typeOf hTs ?_)
  rw [if_pos (by decide)]
  refine wpAny_bind (sliceApplied_rev hs ?_)
  show wpAny _ _ (if ((1 : Int) == 0 && (-1 : Int) == 1 && 2 == 2) = true then _ else _) _ _ s
  rw [if_neg (by decide)]
  have htake : sizeOk (.seq #[v, u]) := by show 2 ≤ sizeLine; decide
  first
    | exact wpAny_bind (m := Builtin.Tuple.tupleExact _) (wpAny_newObj_type (wpAny_pure ⟨_, rfl, wpAny_pure h⟩) htake)
    | exact wpAny_bind (m := Builtin.Tuple.tupleExact _) (wpAny_newObj_type (wpAny_bind (wpAny_pure (wpAny_pure ⟨_, rfl, wpAny_pure h⟩))) htake)
    | exact wpAny_bind (wpAny_bind (m := Builtin.Tuple.tupleExact _) (wpAny_newObj_type (wpAny_pure (wpAny_pure ⟨_, rfl, wpAny_pure h⟩)) htake))
    | exact wpAny_bind (wpAny_bind (m := Builtin.Tuple.tupleExact _) (wpAny_newObj_type (wpAny_pure ⟨_, rfl, wpAny_pure h⟩) htake))
end HT
namespace L2
open PySem PySem.Spec PyProof.Rows
section
variable {X : Cx} {e es : Expr} {te ts : TE} {pos p2 : Pos}
def tRev (K : PySem.W.Frag) (te ts : TE) : TE := fun σ H Q => te σ H fun x H1 => ts σ H1 fun y H2 => y = .int (-1) ∧ ∃ a u v, x = .ref a ∧ SqT K H2 a [u, v] ∧ ∀ p, H2 p = none → Q (.ref p) (upd H2 p (.tup [v, u]))
theorem pe_rev2 (he : PE X e te) (hs : PE X es ts) : PE X (.Subscript e (.Slice none none (some es) p2) pos) (tRev X.K te ts) := by
  intro pins s σ H Q I h
  refine Subscript_ (thn (he pins s σ H _ I h) fun v s1 ⟨x, H1, I1, r1, q1⟩ => ?_)
  refine wpAny_Slice ?_
  rw [evalPart_none, evalPart_some]
  refine wpAny_pure (wpAny_pure ?_)
  refine thn (hs pins s1 σ H1 _ I1 q1) fun vs s3 ⟨y, H3, I3, r3, q3⟩ => ?_
  obtain ⟨rfl, a, u, w, rfl, hx, q⟩ := q3
  obtain ⟨tk, rfl⟩ := r3
  cases r1
  have I4 : Inv X pins σ H3 { s3 with heap := s3.heap.push { cls := .type "slice", data := .fields #[.none, .none, .int (-1) tk] } } := I3.kept (t' := s3.toks) fun b ob q => Heap.get?_push_of_some _ q
  obtain ⟨its, r, ht, hz⟩ := I4.tuple hx
  cases r with
  | cons ra r =>
  cases r with
  | cons rb r =>
  cases r with
  | nil =>
  show wpAny (model X.prog X.w) X.A (subscriptTail e (.Slice none none (some es) p2) (.ref a) (.ref s3.heap.objs.size)) (EP X pins σ Q) X.xe { s3 with heap := s3.heap.push { cls := .type "slice", data := .fields #[.none, .none, .int (-1) tk] } }
  refine tail_any (ops := [.ref a, .ref s3.heap.objs.size]) ht.typeIs PyProof.Rows.slot_tuple_getitem.lookup (HT.getItem_tuple_rev ht (Heap.IsSliceOf.new ..) ?_) (by with_unfolding_all rfl)
  generalize s3.heap.push { cls := .type "slice", data := .fields #[.none, .none, .int (-1) tk] } = h4 at *
  refine ⟨.ref _, _, I4.laid (t' := s3.toks) (o := .tup [w, u]) (fun b ob q => Heap.get?_push_of_some _ q) (Nat.le_refl _) ?_, rfl, q _ (I4.hok.fresh (Nat.le_refl _))⟩
  exact ⟨by show 2 ≤ sizeLine; decide, _, .cons rb (.cons ra .nil), IsTup.new _ _⟩
theorem bits_of {n : Nat} {i : Int} (h : i.natAbs < 2 ^ n) : Builtin.Int.intBits i ≤ n := by
  unfold Builtin.Int.intBits
  by_cases h0 : i = 0
  · subst h0; exact Nat.zero_le _
  · rw [if_neg (by simpa using h0)]
    exact (Nat.log2_lt (by omega)).mpr h
def CMulB (i j : Int) : Prop := i.natAbs < 2 ^ 1000 ∧ j.natAbs < 2 ^ 1000
theorem op_mulB : OpR X (binaryOp .Mult) (rI CMulB fun i j => .int (i * j)) := opI fun i j _ _ _ _ _ hc q => mul_int q (by
  refine PySem.IntMulOk.of_le (m := 1000) (n := 1000) ?_ ?_ (by decide)
  · exact bits_of hc.1
  · exact bits_of hc.2)
end
end L2

/-! the row's own text -/
namespace RR
open PySem L2
def top (i : Nat) : Stmt := PySem.Challenge.pw_rimsteps_k64_sides_that_cross.main.body.getD i (.Pass ⟨0, 0, 0, 0⟩)
abbrev s_across : Stmt := top 1
abbrev N_across : List Str := ["start", "one", "other"]
theorem sc_across : FnScope N_across ["start", "one", "other"] (defScope s_across) := ⟨rfl, rfl, rfl, by decide +kernel, rfl, by decide +kernel, by decide +kernel⟩
abbrev s_do_part : Stmt := top 2
abbrev N_do_part : List Str := ["side", "one", "other", "start", "end"]
theorem sc_do_part : FnScope N_do_part ["side", "one", "other"] (defScope s_do_part) := ⟨rfl, rfl, rfl, by decide +kernel, rfl, by decide +kernel, by decide +kernel⟩
abbrev s_do_cross : Stmt := top 3
abbrev N_do_cross : List Str := ["one", "other"]
theorem sc_do_cross : FnScope N_do_cross ["one", "other"] (defScope s_do_cross) := ⟨rfl, rfl, rfl, by decide +kernel, rfl, by decide +kernel, by decide +kernel⟩
abbrev s__law_cell_at : Stmt := top 5
abbrev N__law_cell_at : List Str := ["_law_script", "_law_k"]
theorem sc__law_cell_at : FnScope N__law_cell_at ["_law_script", "_law_k"] (defScope s__law_cell_at) := ⟨rfl, rfl, rfl, by decide +kernel, rfl, by decide +kernel, by decide +kernel⟩
abbrev s__law_take : Stmt := top 6
abbrev N__law_take : List Str := ["_law_pen", "_law_base", "_law_rest", "_law_number"]
theorem sc__law_take : FnScope N__law_take ["_law_pen", "_law_base"] (defScope s__law_take) := ⟨rfl, rfl, rfl, by decide +kernel, rfl, by decide +kernel, by decide +kernel⟩
abbrev s__law_far : Stmt := top 7
abbrev N__law_far : List Str := ["_law_pen", "_law_way"]
theorem sc__law_far : FnScope N__law_far ["_law_pen"] (defScope s__law_far) := ⟨rfl, rfl, rfl, by decide +kernel, rfl, by decide +kernel, by decide +kernel⟩
abbrev s__law_cell : Stmt := top 8
abbrev N__law_cell : List Str := ["_law_pen", "_law_size", "_law_far_here"]
theorem sc__law_cell : FnScope N__law_cell ["_law_pen", "_law_size", "_law_far_here"] (defScope s__law_cell) := ⟨rfl, rfl, rfl, by decide +kernel, rfl, by decide +kernel, by decide +kernel⟩
abbrev s__law_sides : Stmt := top 9
abbrev N__law_sides : List Str := ["_law_pen", "_law_size", "_law_far_here", "_law_one", "_law_first", "_law_second", "_law_way"]
theorem sc__law_sides : FnScope N__law_sides ["_law_pen"] (defScope s__law_sides) := ⟨rfl, rfl, rfl, by decide +kernel, rfl, by decide +kernel, by decide +kernel⟩
abbrev s__law_due : Stmt := top 10
abbrev N__law_due : List Str := ["_law_one", "_law_other", "_law_px", "_law_py", "_law_ax", "_law_ay", "_law_qx", "_law_qy", "_law_bx", "_law_by", "_law_rx", "_law_ry", "_law_sx", "_law_sy", "_law_below", "_law_first", "_law_second"]
theorem sc__law_due : FnScope N__law_due ["_law_one", "_law_other"] (defScope s__law_due) := ⟨rfl, rfl, rfl, by decide +kernel, rfl, by decide +kernel, by decide +kernel⟩
abbrev s_law : Stmt := top 11
abbrev N_law : List Str := ["_law_script", "_law_k", "_law_one", "_law_other", "_law_due_here", "_law_mine", "_law_theirs", "_law_found"]
theorem sc_law : FnScope N_law ["_law_script"] (defScope s_law) := ⟨rfl, rfl, rfl, by decide +kernel, rfl, by decide +kernel, by decide +kernel⟩
end RR

namespace RR
open PySem L2 RP
def cellT (c : Cell) : List V := [.int c.1, .int c.2]
theorem Same.up {H : Hp} {p : Addr} {o : HO} (h : H p = none) : Same H (upd H p o) := fun b u e => by rw [upd_ne (ne_of_none e h)]; exact e
def KT (H H' : Hp) : Prop := ∀ b xs, H b = some (.tup xs) → H' b = some (.tup xs)
theorem KT.refl (H : Hp) : KT H H := fun _ _ h => h
theorem KT.trans {H H1 H2 : Hp} (a : KT H H1) (b : KT H1 H2) : KT H H2 := fun c o h => b c o (a c o h)
theorem KT.of {H H' : Hp} (s : Same H H') : KT H H' := fun b xs e => s b _ e
structure Txt (P : Program) (w : World) (K : PySem.W.Frag) (mg : Str → Option Value) : Prop where
  nrange : mg "range" = none
  nlen : mg "len" = none
  nmin : mg "min" = none
  nmax : mg "max" = none
  nbool : mg "bool" = none
  nabs : mg "abs" = none
  nisinstance : mg "isinstance" = none
theorem two : 2 ≤ sizeLine := by decide
theorem three : 3 ≤ sizeLine := by decide
theorem four : 4 ≤ sizeLine := by decide
end RR

namespace RR
open PySem L2 RP
/-- all but the pen stays; the pen stands at most n turns further -/
def Pen (H H' : Hp) (p : Addr) (t : Int) (n : Nat) : Prop := (∀ z o, z ≠ p → H z = some o → H' z = some o) ∧ ∃ c t' : Int, H' p = some (.lst [.int c, .int t']) ∧ t ≤ t' ∧ t' ≤ t + n
def HasPen (H : Hp) (p : Addr) (t : Int) : Prop := ∃ c : Int, H p = some (.lst [.int c, .int t]) ∧ 0 ≤ t ∧ t < 2 ^ 40
theorem Pen.trans {H H1 H2 : Hp} {p : Addr} {t t1 : Int} {n m : Nat} (a : Pen H H1 p t n) (h1 : ∃ c : Int, H1 p = some (.lst [.int c, .int t1])) (b : Pen H1 H2 p t1 m) : Pen H H2 p t (n + m) := by
  obtain ⟨k1, c, t', e, l1, l2⟩ := a
  obtain ⟨c1, e1⟩ := h1
  rw [e] at e1
  have q : t' = t1 := by injection e1 with e1; injection e1 with e1; injection e1 with _ e1; injection e1 with e1 _; injection e1
  subst q
  obtain ⟨k2, c2, t2, e2, l3, l4⟩ := b
  exact ⟨fun z o hz h => k2 z o hz (k1 z o hz h), c2, t2, e2, by omega, by rw [Int.natCast_add]; omega⟩
theorem Pen.same {H H1 H2 : Hp} {p : Addr} {t : Int} {n : Nat} (a : Pen H H1 p t n) (s : Same H1 H2) : Pen H H2 p t n := by
  obtain ⟨k1, c, t', e, l1, l2⟩ := a
  exact ⟨fun z o hz h => s _ _ (k1 z o hz h), c, t', s _ _ e, l1, l2⟩
theorem Pen.pre {H0 H H1 : Hp} {p : Addr} {t : Int} {n : Nat} (s : Same H0 H) (a : Pen H H1 p t n) : Pen H0 H1 p t n := ⟨fun z o hz h => a.1 z o hz (s _ _ h), a.2⟩
theorem cpow {i j : Int} (h : 0 ≤ j ∧ j ≤ 1000000 ∧ i.natAbs < 2 ^ 64) : CPow i j := h
section
variable {P : Program} {w : World} {K : PySem.W.Frag} {mg : Str → Option Value} {base : Heap}
def spCellAt (K : PySem.W.Frag) : Sp := fun vs H Q _ => ∃ (a : Addr) (ns : List Int) (k : Nat), vs = [.ref a, .int k] ∧ SqL K H a (ns.map V.int) ∧ ∀ n, Q (.int n) H
theorem ok_law_cell_at (T : Txt P w K mg) (d : Df K mg "_law_cell_at" s__law_cell_at ["_law_script", "_law_k"]) : FnOk P w K mg base CX0 1 d.f d.fd ["_law_script", "_law_k"] (spCellAt K) := by
  refine d.F.ok sc__law_cell_at (fun vs H Q E h => ?_) (fun cdv A outer s H vs Q E hr h => ?_)
  · obtain ⟨a, ns, k, rfl, _⟩ := h
    rfl
  · obtain ⟨a, ns, i, rfl, hq, k⟩ := h
    refine ⟨_, (pss_cons (ps_if (pt_cmpR op_lt (pv 1) (pe_callB call_len_seq (by rfl) T.nlen (by rfl) (pa_cons (pv 0) pa_nil)) (nomark _))
      (pss_one (ps_ret (pe_ix ix_list (pv 0) (pv 1) (fun _ _ => rfl))))
      pss_nil)
      (pss_one (ps_ret pe_int))), ?_⟩
    refine ⟨_, rfl, _, rfl, a, _, rfl, .inl hq, _, _, rfl, rfl, _, rfl, ?_⟩
    refine ite2 (fun hy => ?_) (fun hn => k 0)
    have hlt : i < ns.length := by
      have := of_decide_eq_true hy
      rw [List.length_map] at this
      omega
    exact ⟨_, rfl, _, rfl, a, _, _, _, rfl, rfl, hq, atI_nat (v := .int ns[i]) (by simp [hlt]), k _⟩
def spTake : Sp := fun vs H Q _ => ∃ (p : Addr) (t b : Int), vs = [.ref p, .int b] ∧ HasPen H p t ∧ 0 < b ∧ b.natAbs.log2 < 9000 ∧ ∀ (n c : Int), 0 ≤ n → n < b → Q (.int n) (upd H p (.lst [.int c, .int (t + 1)]))
theorem ok_law_take (T : Txt P w K mg) (d : Df K mg "_law_take" s__law_take ["_law_pen", "_law_base"]) : FnOk P w K mg base CX0 1 d.f d.fd ["_law_pen", "_law_base"] spTake := by
  refine d.F.ok sc__law_take (fun vs H Q E h => ?_) (fun cdv A outer s H vs Q E hr h => ?_)
  · obtain ⟨p, t, b, rfl, _⟩ := h
    rfl
  · obtain ⟨p, t, b, rfl, ⟨c, hp, ht0, ht1⟩, hb, hlog, k⟩ := h
    refine ⟨_, (pss_cons (ps_asg (pe_op op_add (pe_ix ix_list (pv 0) pe_int (fun _ _ => rfl)) pe_int) (pg_sub (pv 0) pe_int set_list))
      (pss_cons (ps_if (pt_cmpR op_ge (pe_callB call_abs (by rfl) T.nabs (by rfl) (pa_cons (pe_ix ix_list (pv 0) pe_int (fun _ _ => rfl)) pa_nil)) (pe_op op_pow pe_int pe_int) (nomark _))
      (pss_cons (ps_set (i := 2) sc__law_take.nd (by rfl) (Or.inl rfl) (pe_op op_sub (pe_callB call_abs (by rfl) T.nabs (by rfl) (pa_cons (pe_ix ix_list (pv 0) pe_int (fun _ _ => rfl)) pa_nil)) (pe_op op_pow pe_int pe_int)))
      (pss_cons (ps_asg (pe_op op_add (pe_op op_pow pe_int pe_int) (pe_op op_fdivB (pv 2) (pv 1))) (pg_sub (pv 0) pe_int set_list))
      (pss_one (ps_ret (pe_op op_mod (pv 2) (pv 1))))))
      pss_nil)
      (pss_cons (ps_set (i := 3) sc__law_take.nd (by rfl) (Or.inl rfl) (pe_op op_add (pe_op op_mul (pe_op op_mod (pe_ix ix_list (pv 0) pe_int (fun _ _ => rfl)) pe_int) pe_int) (pe_op op_mul (pe_op op_mul pe_int (pe_ix ix_list (pv 0) pe_int (fun _ _ => rfl))) (pe_ix ix_list (pv 0) pe_int (fun _ _ => rfl)))))
      (pss_cons (ps_set (i := 3) sc__law_take.nd (by rfl) (Or.inl rfl) (pe_op op_mod (pe_op op_add (pe_op op_add (pv 3) (pe_op op_mul pe_int (pe_ix ix_list (pv 0) pe_int (fun _ _ => rfl)))) pe_int) pe_int))
      (pss_cons (ps_set (i := 3) sc__law_take.nd (by rfl) (Or.inl rfl) (pe_op op_mod (pe_op op_add (pe_op op_add (pe_op op_mul (pv 3) (pv 3)) (pe_op op_mul pe_int (pv 3))) (pe_ix ix_list (pv 0) pe_int (fun _ _ => rfl))) pe_int))
      (pss_one (ps_ret (pe_op op_mod (pe_op op_fdiv (pv 3) pe_int) (pv 1))))))))), ?_⟩
    refine ⟨_, rfl, p, _, _, _, rfl, rfl, SqL.of hp, atI_nat (j := 1) rfl, _, _, rfl, rfl, _, rfl, p, _, _, 1, rfl, rfl, hp, rfl, ?_⟩
    have h1 : upd H p (.lst [.int c, .int (t + 1)]) p = some (.lst [.int c, .int (t + 1)]) := upd_same
    have hmod : ∀ z : Int, 0 ≤ z % b ∧ z % b < b := fun z => ⟨Int.emod_nonneg _ (by omega), Int.emod_lt_of_pos _ hb⟩
    refine ⟨_, rfl, p, _, _, _, rfl, rfl, SqL.of h1, atI_nat (j := 0) rfl, c, rfl, _, _, rfl, rfl, (by refine cpow ?_; decide), _, _, rfl, rfl, _, rfl, ?_⟩
    refine ite2 (fun _ => ?_) (fun _ => ?_)
    · refine ⟨_, rfl, p, _, _, _, rfl, rfl, SqL.of h1, atI_nat (j := 0) rfl, c, rfl, _, _, rfl, rfl, (by refine cpow ?_; decide), _, _, rfl, rfl, ?_⟩
      refine ⟨_, _, rfl, rfl, (by refine cpow ?_; decide), _, rfl, _, rfl, _, _, rfl, rfl, ⟨hb, hlog⟩, _, _, rfl, rfl, _, rfl, p, _, _, 0, rfl, rfl, h1, rfl, ?_⟩
      refine ⟨_, rfl, _, rfl, _, _, rfl, rfl, hb, ?_⟩
      rw [upd_upd]
      exact k _ _ (hmod _).1 (hmod _).2
    · refine ⟨_, rfl, p, _, _, _, rfl, rfl, SqL.of h1, atI_nat (j := 0) rfl, _, _, rfl, rfl, (by show (0 : Int) < 2147483647; decide), _, _, rfl, rfl, .inr ⟨by decide, by decide⟩,
        _, rfl, p, _, _, _, rfl, rfl, SqL.of h1, atI_nat (j := 1) rfl, _, _, rfl, rfl, .inl ⟨by decide, by decide⟩, _, rfl, p, _, _, _, rfl, rfl, SqL.of h1, atI_nat (j := 1) rfl, _, _, rfl, rfl, .inr ⟨by omega, by omega⟩, _, _, rfl, rfl, ?_⟩
      refine ⟨_, rfl, _, rfl, p, _, _, _, rfl, rfl, SqL.of h1, atI_nat (j := 1) rfl, _, _, rfl, rfl, .inl ⟨by decide, by decide⟩, _, _, rfl, rfl, _, _, rfl, rfl, _, _, rfl, rfl, (by show (0 : Int) < 2147483629; decide), ?_⟩
      refine ⟨_, rfl, _, rfl, _, _, rfl, rfl, .inl ⟨Int.lt_of_lt_of_le (show (-(2 ^ 64) : Int) < 0 by decide) (Int.emod_nonneg _ (by decide)), Int.lt_trans (Int.emod_lt_of_pos _ (by decide)) (by decide)⟩, _, rfl, _, _, rfl, rfl, .inl ⟨by decide, by decide⟩, _, _, rfl, rfl,
        _, rfl, p, _, _, _, rfl, rfl, SqL.of h1, atI_nat (j := 1) rfl, _, _, rfl, rfl, _, _, rfl, rfl, (by show (0 : Int) < 2147483587; decide), ?_⟩
      refine ⟨_, rfl, _, _, rfl, rfl, ⟨by decide, by decide⟩, _, rfl, _, _, rfl, rfl, hb, ?_⟩
      exact k _ _ (hmod _).1 (hmod _).2
end
end RR

namespace RR
open PySem L2 RP
/-- the pen at p, good for n more turns -/
def HasB (H : Hp) (p : Addr) (n : Nat) : Prop := ∃ c t : Int, H p = some (.lst [.int c, .int t]) ∧ 0 ≤ t ∧ t + n < 2 ^ 40
theorem HasB.le {H : Hp} {p : Addr} {n m : Nat} (h : HasB H p n) (hm : m ≤ n) : HasB H p m := let ⟨c, t, e, a, b⟩ := h; ⟨c, t, e, a, by omega⟩
theorem HasB.same {H H' : Hp} {p : Addr} {n : Nat} (h : HasB H p n) (s : Same H H') : HasB H' p n := let ⟨c, t, e, a, b⟩ := h; ⟨c, t, s _ _ e, a, b⟩
/-- all but the pen stays -/
def But (H H' : Hp) (p : Addr) : Prop := ∀ z o, z ≠ p → H z = some o → H' z = some o
theorem But.refl (H : Hp) (p : Addr) : But H H p := fun _ _ _ h => h
theorem But.trans {H H1 H2 : Hp} {p : Addr} (a : But H H1 p) (b : But H1 H2 p) : But H H2 p := fun z o hz h => b z o hz (a z o hz h)
theorem But.of {H H1 : Hp} {p : Addr} (a : Same H H1) : But H H1 p := fun z o _ h => a z o h
theorem But.kt {H H1 : Hp} {p : Addr} {n : Nat} (a : But H H1 p) (h : HasB H p n) : KT H H1 := fun b xs e => by
  obtain ⟨c, t, ep, _⟩ := h
  exact a b _ (ne_of e ep (fun z => nomatch z)) e
theorem small_log {b : Int} (h0 : 0 < b) (h : b ≤ 1000) : b.natAbs.log2 < 9000 := by
  refine (Nat.log2_lt (by omega)).mpr (Nat.lt_of_lt_of_le (show b.natAbs < 2 ^ 10 by omega) (Nat.pow_le_pow_right (by decide) (by decide)))
/-- an int of at most n bits -/
def Sm (n : Nat) (i : Int) : Prop := i.natAbs < 2 ^ n
theorem Sm.le {n m : Nat} {i : Int} (h : Sm n i) (hm : n ≤ m) : Sm m i := Nat.lt_of_lt_of_le h (Nat.pow_le_pow_right (by decide) hm)
theorem Sm.sub {n : Nat} {i j : Int} (h : Sm n i) (g : Sm n j) : Sm (n + 1) (i - j) := by
  unfold Sm at *
  rw [Nat.pow_succ]
  omega
theorem Sm.mul {n m : Nat} {i j : Int} (h : Sm n i) (g : Sm m j) : Sm (n + m) (i * j) := by
  unfold Sm at *
  rw [Int.natAbs_mul, Nat.pow_add]
  exact Nat.mul_lt_mul'' h g
theorem Sm.cm {n m : Nat} {i j : Int} (h : Sm n i) (g : Sm m j) (hn : n ≤ 1000) (hm : m ≤ 1000) : CMulB i j := ⟨h.le hn, g.le hm⟩
section
variable {P : Program} {w : World} {K : PySem.W.Frag} {mg : Str → Option Value} {base : Heap}
def spTk : Sp := fun vs H Q _ => ∃ (p : Addr) (n : Nat) (b : Int), vs = [.ref p, .int b] ∧ HasB H p (n + 1) ∧ 0 < b ∧ b.natAbs.log2 < 9000 ∧ ∀ (r : Int) (H' : Hp), 0 ≤ r → r < b → But H H' p → HasB H' p n → Q (.int r) H'
theorem tk_of {f : Addr} {fd : FuncData} (h : FnOk P w K mg base CX0 1 f fd ["_law_pen", "_law_base"] spTake) : FnOk P w K mg base CX0 1 f fd ["_law_pen", "_law_base"] spTk := by
  refine h.imp fun vs H Q E h => ?_
  obtain ⟨p, n, b, rfl, ⟨c, t, e, h0, h1⟩, hb, hl, k⟩ := h
  refine ⟨p, t, b, rfl, ⟨c, e, h0, by omega⟩, hb, hl, fun r c' h2 h3 => k r _ h2 h3 (fun z o hz h => by rw [upd_ne hz]; exact h) ⟨c', t + 1, upd_same, by omega, by omega⟩⟩
abbrev Tk (P : Program) (w : World) (K : PySem.W.Frag) (mg : Str → Option Value) (base : Heap) := Fn P w K mg base 1 "_law_take" ["_law_pen", "_law_base"] spTk
def spFar : Sp := fun vs H Q _ => ∃ (p : Addr) (n : Nat), vs = [.ref p] ∧ HasB H p (n + 3) ∧ ∀ (r : Int) (H' : Hp), Sm 102 r → But H H' p → HasB H' p n → Q (.int r) H'
theorem atI3 {a b c : V} {n : Int} (h0 : 0 ≤ n) (h3 : n < 3) : ∃ v, atI [a, b, c] n = some v ∧ (v = a ∨ v = b ∨ v = c) := by
  have : n = 0 ∨ n = 1 ∨ n = 2 := by omega
  rcases this with rfl | rfl | rfl
  · exact ⟨a, rfl, .inl rfl⟩
  · exact ⟨b, rfl, .inr (.inl rfl)⟩
  · exact ⟨c, rfl, .inr (.inr rfl)⟩
theorem sm_of {i : Int} (h1 : -(10 ^ 30) ≤ i) (h2 : i ≤ 10 ^ 30) : Sm 102 i := by
  unfold Sm
  rw [show (2 : Nat) ^ 102 = 5070602400912917605986812821504 by decide +kernel]
  rw [show (10 : Int) ^ 30 = 1000000000000000000000000000000 by decide +kernel] at h1 h2
  omega
theorem ok_law_far (g__law_take : Tk P w K mg base) (d : Df K mg "_law_far" s__law_far ["_law_pen"]) : FnOk P w K mg base CX0 2 d.f d.fd ["_law_pen"] spFar := by
  refine d.F.ok sc__law_far (fun vs H Q E h => ?_) (fun cdv A outer s H vs Q E hr h => ?_)
  · obtain ⟨p, n, rfl, _⟩ := h
    rfl
  · obtain ⟨p, n, rfl, hp, k⟩ := h
    refine ⟨_, (pss_cons (ps_set (i := 1) sc__law_far.nd (by rfl) (Or.inl rfl) (pe_call g__law_take.ok (hr.mono (by decide)) (by rfl) g__law_take.m g__law_take.kp g__law_take.b .nil pass0 (pa_cons (pv 0) (pa_cons pe_int pa_nil))))
      (pss_cons (ps_if (pt_cmpR op_lt (pv 1) pe_int (nomark _))
      (pss_one (ps_ret (pe_ix ix_list (pe_lst (pa_cons pe_int (pa_cons (pe_op op_sub (pe_call g__law_take.ok (hr.mono (by decide)) (by rfl) g__law_take.m g__law_take.kp g__law_take.b .nil pass0 (pa_cons (pv 0) (pa_cons pe_int pa_nil))) pe_int) (pa_cons (pe_op op_sub (pe_call g__law_take.ok (hr.mono (by decide)) (by rfl) g__law_take.m g__law_take.kp g__law_take.b .nil pass0 (pa_cons (pv 0) (pa_cons pe_int pa_nil))) pe_int) pa_nil)))) (pv 1) (fun _ _ => rfl))))
      pss_nil)
      (pss_one (ps_ret (pe_op op_add (pe_op op_sub (pe_call g__law_take.ok (hr.mono (by decide)) (by rfl) g__law_take.m g__law_take.kp g__law_take.b .nil pass0 (pa_cons (pv 0) (pa_cons (pe_op op_sub (pe_op op_mul pe_int (pe_op op_pow pe_int pe_int)) pe_int) pa_nil))) (pe_op op_pow pe_int pe_int)) pe_int))))), ?_⟩
    refine ⟨_, rfl, p, n + 2, 4, rfl, hp, by decide, small_log (by decide) (by decide), fun r H1 h0 h4 b1 p1 => ?_⟩
    refine ⟨_, rfl, _, _, rfl, rfl, _, rfl, ?_⟩
    refine ite2 (fun hy => ?_) (fun hn => ?_)
    · have h3 : r < 3 := of_decide_eq_true hy
      refine ⟨_, rfl, p, n + 1, 41, rfl, p1, by decide, small_log (by decide) (by decide), fun r2 H2 a2 c2 b2 p2 => ⟨_, _, rfl, rfl, ?_⟩⟩
      refine ⟨_, rfl, p, n, 2000001, rfl, p2, by decide, by decide +kernel, fun r3 H3 a3 c3 b3 p3 => ⟨_, _, rfl, rfl, three, fun l hl => ?_⟩⟩
      obtain ⟨v, hv, hor⟩ := atI3 (a := .int 0) (b := .int (r2 - 20)) (c := .int (r3 - 1000000)) h0 h3
      refine ⟨_, rfl, l, _, _, v, rfl, rfl, SqL.of upd_same, hv, ?_⟩
      have fin : ∀ z : Int, Sm 102 z → Q (.int z) (upd H3 l (.lst [.int 0, .int (r2 - 20), .int (r3 - 1000000)])) := fun z hz => k z _ hz ((b1.trans (b2.trans b3)).trans (But.of (Same.up hl))) (p3.same (Same.up hl))
      have big : (10 : Int) ^ 30 = 1000000000000000000000000000000 := by decide +kernel
      rcases hor with z | z | z <;> rw [z] <;> refine fin _ (sm_of ?_ ?_) <;> rw [big] <;> omega
    · refine ⟨_, rfl, _, _, rfl, rfl, (by refine cpow ?_; decide), _, _, rfl, rfl, .inl ⟨by decide, by decide⟩, _, _, rfl, rfl, p, n + 1, _, rfl, p1, (by decide), (by decide +kernel), fun r2 H2 a2 c2 b2 p2 => ?_⟩
      refine ⟨_, _, rfl, rfl, (by refine cpow ?_; decide), _, _, rfl, rfl, _, _, rfl, rfl, ?_⟩
      have big : (10 : Int) ^ 30 = 1000000000000000000000000000000 := by decide +kernel
      have c2' : r2 < 2 * 10 ^ 30 - 799 := c2
      have bigT : (10 : Int) ^ (Int.toNat 30) = 1000000000000000000000000000000 := by decide +kernel
      refine k _ _ (sm_of ?_ ?_) (b1.trans b2) (p2.le (by omega))
      · show -(10 ^ 30) ≤ r2 - 10 ^ 30 + 400
        rw [big] at *; omega
      · show r2 - 10 ^ 30 + 400 ≤ 10 ^ 30
        rw [big] at *; omega
abbrev Side := Cell × Cell
def sideR (s : Side) (v : V) (H : Hp) : Prop := ∃ A a b, v = .ref A ∧ H A = some (.tup [.ref a, .ref b]) ∧ H a = some (.tup (cellT s.1)) ∧ H b = some (.tup (cellT s.2))
theorem sideR.kt {s : Side} {v : V} {H H' : Hp} (h : sideR s v H) (k : KT H H') : sideR s v H' := let ⟨A, a, b, e, h1, h2, h3⟩ := h; ⟨A, a, b, e, k _ _ h1, k _ _ h2, k _ _ h3⟩
def SmC (c : Cell) : Prop := Sm 110 c.1 ∧ Sm 110 c.2
def SmS (s : Side) : Prop := SmC s.1 ∧ SmC s.2
/-- the cross product of the ways from p -/
def crs (p a b : Cell) : Int := (a.1 - p.1) * (b.2 - p.2) - (a.2 - p.2) * (b.1 - p.1)
theorem crs_sm {p a b : Cell} (h1 : SmC p) (h2 : SmC a) (h3 : SmC b) : Sm 223 (crs p a b) :=
  ((h2.1.sub h1.1).mul (h3.2.sub h1.2)).sub ((h2.2.sub h1.2).mul (h3.1.sub h1.1))
def spAcross (K : PySem.W.Frag) : Sp := fun vs H Q _ => ∃ (p a b : Addr) (P A B : Cell), vs = [.ref p, .ref a, .ref b] ∧ H p = some (.tup (cellT P)) ∧ H a = some (.tup (cellT A)) ∧ H b = some (.tup (cellT B)) ∧ SmC P ∧ SmC A ∧ SmC B ∧ Q (.int (crs P A B)) H
theorem ok_across (d : Df K mg "across" s_across ["start", "one", "other"]) : FnOk P w K mg base CX0 1 d.f d.fd ["start", "one", "other"] (spAcross K) := by
  refine d.F.ok sc_across (fun vs H Q E h => ?_) (fun cdv A outer s H vs Q E hr h => ?_)
  · obtain ⟨p, a, b, C, A, B, rfl, _⟩ := h
    rfl
  · obtain ⟨p, a, b, C, A, B, rfl, h1, h2, h3, z1, z2, z3, k⟩ := h
    refine ⟨_, (pss_one (ps_ret (pe_op op_sub (pe_op op_mulB (pe_op op_sub (pe_ix ix_tup (pv 1) pe_int (fun _ _ => rfl)) (pe_ix ix_tup (pv 0) pe_int (fun _ _ => rfl))) (pe_op op_sub (pe_ix ix_tup (pv 2) pe_int (fun _ _ => rfl)) (pe_ix ix_tup (pv 0) pe_int (fun _ _ => rfl)))) (pe_op op_mulB (pe_op op_sub (pe_ix ix_tup (pv 1) pe_int (fun _ _ => rfl)) (pe_ix ix_tup (pv 0) pe_int (fun _ _ => rfl))) (pe_op op_sub (pe_ix ix_tup (pv 2) pe_int (fun _ _ => rfl)) (pe_ix ix_tup (pv 0) pe_int (fun _ _ => rfl))))))), ?_⟩
    refine ⟨_, rfl, a, _, _, _, rfl, rfl, SqT.of h2, atI_nat (j := 0) rfl, _, rfl, p, _, _, _, rfl, rfl, SqT.of h1, atI_nat (j := 0) rfl, _, _, rfl, rfl, ?_⟩
    refine ⟨_, rfl, b, _, _, _, rfl, rfl, SqT.of h3, atI_nat (j := 1) rfl, _, rfl, p, _, _, _, rfl, rfl, SqT.of h1, atI_nat (j := 1) rfl, _, _, rfl, rfl, ?_⟩
    refine ⟨_, _, rfl, rfl, (z2.1.sub z1.1).cm (z3.2.sub z1.2) (by decide) (by decide), ?_⟩
    refine ⟨_, rfl, a, _, _, _, rfl, rfl, SqT.of h2, atI_nat (j := 1) rfl, _, rfl, p, _, _, _, rfl, rfl, SqT.of h1, atI_nat (j := 1) rfl, _, _, rfl, rfl, ?_⟩
    refine ⟨_, rfl, b, _, _, _, rfl, rfl, SqT.of h3, atI_nat (j := 0) rfl, _, rfl, p, _, _, _, rfl, rfl, SqT.of h1, atI_nat (j := 0) rfl, _, _, rfl, rfl, ?_⟩
    exact ⟨_, _, rfl, rfl, (z2.2.sub z1.2).cm (z3.1.sub z1.1) (by decide) (by decide), _, _, rfl, rfl, k⟩
def parts (s : Side) (a b : Cell) : Bool := decide (crs s.1 s.2 a * crs s.1 s.2 b < 0)
def spPart (K : PySem.W.Frag) : Sp := fun vs H Q _ => ∃ (v : V) (a b : Addr) (s : Side) (A B : Cell), vs = [v, .ref a, .ref b] ∧ sideR s v H ∧ H a = some (.tup (cellT A)) ∧ H b = some (.tup (cellT B)) ∧ SmS s ∧ SmC A ∧ SmC B ∧ Q (.bl (parts s A B)) H
theorem ok_do_part (g_across : Fn P w K mg base 1 "across" ["start", "one", "other"] (spAcross K)) (d : Df K mg "do_part" s_do_part ["side", "one", "other"]) : FnOk P w K mg base CX0 2 d.f d.fd ["side", "one", "other"] (spPart K) := by
  refine d.F.ok sc_do_part (fun vs H Q E h => ?_) (fun cdv A outer s H vs Q E hr h => ?_)
  · obtain ⟨v, a, b, s, A, B, rfl, _⟩ := h
    rfl
  · obtain ⟨v, a, b, s, A, B, rfl, ⟨S, p, q, rfl, h1, h2, h3⟩, h4, h5, z1, z2, z3, k⟩ := h
    refine ⟨_, (pss_cons (ps_asg (pv 0) (pg_tup (by rfl) (pgs_cons (pg_name (i := 3) sc_do_part.nd (by rfl) (Or.inl rfl)) (pgs_cons (pg_name (i := 4) sc_do_part.nd (by rfl) (Or.inl rfl)) pgs_nil))))
      (pss_one (ps_ret (pe_cmpR op_lt (pe_op op_mulB (pe_call g_across.ok (hr.mono (by decide)) (by rfl) g_across.m g_across.kp g_across.b .nil pass0 (pa_cons (pv 3) (pa_cons (pv 4) (pa_cons (pv 1) pa_nil)))) (pe_call g_across.ok (hr.mono (by decide)) (by rfl) g_across.m g_across.kp g_across.b .nil pass0 (pa_cons (pv 3) (pa_cons (pv 4) (pa_cons (pv 2) pa_nil))))) pe_int (nomark _))))), ?_⟩
    refine ⟨_, rfl, S, _, rfl, SqT.of h1, rfl, _, _, rfl, _, _, rfl, rfl, ?_⟩
    refine ⟨_, rfl, _, rfl, _, rfl, p, q, a, _, _, _, rfl, h2, h3, h4, z1.1, z1.2, z2, ?_⟩
    refine ⟨_, rfl, _, rfl, _, rfl, p, q, b, _, _, _, rfl, h2, h3, h5, z1.1, z1.2, z3, ?_⟩
    exact ⟨_, _, rfl, rfl, (crs_sm z1.1 z1.2 z2).cm (crs_sm z1.1 z1.2 z3) (by decide) (by decide), _, _, rfl, rfl, k⟩
def cross (s t : Side) : Bool := parts s t.1 t.2 && parts t s.1 s.2
def spCross (K : PySem.W.Frag) : Sp := fun vs H Q _ => ∃ (v u : V) (s t : Side), vs = [v, u] ∧ sideR s v H ∧ sideR t u H ∧ SmS s ∧ SmS t ∧ Q (.bl (cross s t)) H
theorem ok_do_cross (g_do_part : Fn P w K mg base 2 "do_part" ["side", "one", "other"] (spPart K)) (d : Df K mg "do_cross" s_do_cross ["one", "other"]) : FnOk P w K mg base CX0 3 d.f d.fd ["one", "other"] (spCross K) := by
  refine d.F.ok sc_do_cross (fun vs H Q E h => ?_) (fun cdv A outer s H vs Q E hr h => ?_)
  · obtain ⟨v, u, s, t, rfl, _⟩ := h
    rfl
  · obtain ⟨v, u, s, t, rfl, hs, ht, z1, z2, k⟩ := h
    obtain ⟨S, p, q, rfl, h1, h2, h3⟩ := id hs
    obtain ⟨T, p', q', rfl, h4, h5, h6⟩ := id ht
    refine ⟨_, (pss_one (ps_ret (pe_and (pe_call g_do_part.ok (hr.mono (by decide)) (by rfl) g_do_part.m g_do_part.kp g_do_part.b .nil pass0 (pa_cons (pv 0) (pa_cons (pe_ix ix_tup (pv 1) pe_int (fun _ _ => rfl)) (pa_cons (pe_ix ix_tup (pv 1) pe_int (fun _ _ => rfl)) pa_nil)))) (pe_one (pe_call g_do_part.ok (hr.mono (by decide)) (by rfl) g_do_part.m g_do_part.kp g_do_part.b .nil pass0 (pa_cons (pv 1) (pa_cons (pe_ix ix_tup (pv 0) pe_int (fun _ _ => rfl)) (pa_cons (pe_ix ix_tup (pv 0) pe_int (fun _ _ => rfl)) pa_nil)))))))), ?_⟩
    refine ⟨_, rfl, _, rfl, T, _, _, _, rfl, rfl, SqT.of h4, atI_nat (j := 0) rfl, _, rfl, T, _, _, _, rfl, rfl, SqT.of h4, atI_nat (j := 1) rfl, _, p', q', s, t.1, t.2, rfl, hs, h5, h6, z1, z2.1, z2.2, ?_⟩
    have goal2 : parts s t.1 t.2 = true → Q (.bl (parts t s.1 s.2)) H := fun e => by
      have : cross s t = parts t s.1 s.2 := by unfold cross; rw [e]; rfl
      rw [← this]; exact k
    cases e : parts s t.1 t.2 with
    | false =>
      refine ⟨_, rfl, iteF ?_⟩
      have : cross s t = false := by unfold cross; rw [e]; rfl
      rw [← this]; exact k
    | true =>
      refine ⟨_, rfl, iteT ?_⟩
      exact ⟨_, rfl, _, rfl, S, _, _, _, rfl, rfl, SqT.of h1, atI_nat (j := 0) rfl, _, rfl, S, _, _, _, rfl, rfl, SqT.of h1, atI_nat (j := 1) rfl, _, p, q, t, s.1, s.2, rfl, ht, h2, h3, z2, z1.1, z1.2, goal2 e⟩
end
end RR

namespace RR
open PySem L2 RP
def duB (b f s : Int) : Bool := if b < 0 then (decide (b < f) && decide (f < 0)) && (decide (b < s) && decide (s < 0)) else (decide (0 < f) && decide (f < b)) && (decide (0 < s) && decide (s < b))
def due (s t : Side) : Bool :=
  duB ((s.2.1 - s.1.1) * (t.2.2 - t.1.2) - (s.2.2 - s.1.2) * (t.2.1 - t.1.1))
    ((t.1.1 - s.1.1) * (t.2.2 - t.1.2) - (t.1.2 - s.1.2) * (t.2.1 - t.1.1))
    ((t.1.1 - s.1.1) * (s.2.2 - s.1.2) - (t.1.2 - s.1.2) * (s.2.1 - s.1.1))
theorem neg_mul_iff (x y : Int) : x * y < 0 ↔ (x < 0 ∧ 0 < y) ∨ (0 < x ∧ y < 0) := by
  rcases Int.lt_trichotomy x 0 with hx | hx | hx <;> rcases Int.lt_trichotomy y 0 with hy | hy | hy
  · have := Int.mul_pos_of_neg_of_neg hx hy; omega
  · subst hy; simp
  · have := Int.mul_neg_of_neg_of_pos hx hy; omega
  · subst hx; simp
  · subst hx; simp
  · subst hx; simp
  · have := Int.mul_neg_of_pos_of_neg hx hy; omega
  · subst hy; simp
  · have := Int.mul_pos hx hy; omega
theorem cross_due (s t : Side) : cross s t = due s t := by
  obtain ⟨⟨px, py⟩, ⟨ax, ay⟩⟩ := s
  obtain ⟨⟨qx, qy⟩, ⟨bx, by'⟩⟩ := t
  unfold cross parts due duB crs
  simp only
  generalize hB : (ax - px) * (by' - qy) - (ay - py) * (bx - qx) = B
  generalize hF : (qx - px) * (by' - qy) - (qy - py) * (bx - qx) = F
  generalize hS : (qx - px) * (ay - py) - (qy - py) * (ax - px) = S
  have e1 : (ax - px) * (qy - py) - (ay - py) * (qx - px) = -S := by rw [← hS]; grind
  have e2 : (ax - px) * (by' - py) - (ay - py) * (bx - px) = B - S := by rw [← hB, ← hS]; grind
  have e3 : (bx - qx) * (py - qy) - (by' - qy) * (px - qx) = F := by rw [← hF]; grind
  have e4 : (bx - qx) * (ay - qy) - (by' - qy) * (ax - qx) = F - B := by rw [← hF, ← hB]; grind
  rw [e1, e2, e3, e4]
  by_cases hb : B < 0
  · rw [if_pos hb]
    simp only [← Bool.decide_and]
    refine decide_eq_decide.mpr ?_
    rw [neg_mul_iff, neg_mul_iff]
    omega
  · rw [if_neg hb]
    simp only [← Bool.decide_and]
    refine decide_eq_decide.mpr ?_
    rw [neg_mul_iff, neg_mul_iff]
    omega
theorem cross_comm (s t : Side) : cross s t = cross t s := by unfold cross; rw [Bool.and_comm]
def rv (s : Side) : Side := (s.2, s.1)
theorem parts_comm (s : Side) (a b : Cell) : parts s a b = parts s b a := by unfold parts; rw [Int.mul_comm]
theorem parts_rv (s : Side) (a b : Cell) : parts (rv s) a b = parts s a b := by
  obtain ⟨⟨px, py⟩, ⟨ax, ay⟩⟩ := s
  obtain ⟨qx, qy⟩ := a
  obtain ⟨bx, by'⟩ := b
  unfold parts rv crs
  simp only
  refine decide_eq_decide.mpr ?_
  have : ((px - ax) * (qy - ay) - (py - ay) * (qx - ax)) * ((px - ax) * (by' - ay) - (py - ay) * (bx - ax)) = ((ax - px) * (qy - py) - (ay - py) * (qx - px)) * ((ax - px) * (by' - py) - (ay - py) * (bx - px)) := by
    have h1 : (px - ax) * (qy - ay) - (py - ay) * (qx - ax) = -((ax - px) * (qy - py) - (ay - py) * (qx - px)) := by grind
    have h2 : (px - ax) * (by' - ay) - (py - ay) * (bx - ax) = -((ax - px) * (by' - py) - (ay - py) * (bx - px)) := by grind
    rw [h1, h2, Int.neg_mul_neg]
  rw [this]
theorem cross_rv (s t : Side) : cross (rv s) t = cross s t := by
  unfold cross
  rw [parts_rv]
  show (parts s t.1 t.2 && parts t s.2 s.1) = _
  rw [parts_comm t]
section
variable {P : Program} {w : World} {K : PySem.W.Frag} {mg : Str → Option Value} {base : Heap}
def spDue (K : PySem.W.Frag) : Sp := fun vs H Q _ => ∃ (v u : V) (s t : Side), vs = [v, u] ∧ sideR s v H ∧ sideR t u H ∧ SmS s ∧ SmS t ∧ Q (.bl (due s t)) H
theorem ok_law_due (d : Df K mg "_law_due" s__law_due ["_law_one", "_law_other"]) : FnOk P w K mg base CX0 1 d.f d.fd ["_law_one", "_law_other"] (spDue K) := by
  refine d.F.ok sc__law_due (fun vs H Q E h => ?_) (fun cdv A outer s H vs Q E hr h => ?_)
  · obtain ⟨v, u, s, t, rfl, _⟩ := h
    rfl
  · obtain ⟨v, u, s, t, rfl, hs, ht, z1, z2, k⟩ := h
    obtain ⟨S, p, q, rfl, h1, h2, h3⟩ := id hs
    obtain ⟨T, p', q', rfl, h4, h5, h6⟩ := id ht
    refine ⟨_, (pss_cons (ps_asg (pv 0) (pg_tup (by rfl) (pgs_cons (pg_tup (by rfl) (pgs_cons (pg_name (i := 2) sc__law_due.nd (by rfl) (Or.inl rfl)) (pgs_cons (pg_name (i := 3) sc__law_due.nd (by rfl) (Or.inl rfl)) pgs_nil))) (pgs_cons (pg_tup (by rfl) (pgs_cons (pg_name (i := 4) sc__law_due.nd (by rfl) (Or.inl rfl)) (pgs_cons (pg_name (i := 5) sc__law_due.nd (by rfl) (Or.inl rfl)) pgs_nil))) pgs_nil))))
      (pss_cons (ps_asg (pv 1) (pg_tup (by rfl) (pgs_cons (pg_tup (by rfl) (pgs_cons (pg_name (i := 6) sc__law_due.nd (by rfl) (Or.inl rfl)) (pgs_cons (pg_name (i := 7) sc__law_due.nd (by rfl) (Or.inl rfl)) pgs_nil))) (pgs_cons (pg_tup (by rfl) (pgs_cons (pg_name (i := 8) sc__law_due.nd (by rfl) (Or.inl rfl)) (pgs_cons (pg_name (i := 9) sc__law_due.nd (by rfl) (Or.inl rfl)) pgs_nil))) pgs_nil))))
      (pss_cons (ps_set (i := 10) sc__law_due.nd (by rfl) (Or.inl rfl) (pe_op op_sub (pv 4) (pv 2)))
      (pss_cons (ps_set (i := 11) sc__law_due.nd (by rfl) (Or.inl rfl) (pe_op op_sub (pv 5) (pv 3)))
      (pss_cons (ps_set (i := 12) sc__law_due.nd (by rfl) (Or.inl rfl) (pe_op op_sub (pv 8) (pv 6)))
      (pss_cons (ps_set (i := 13) sc__law_due.nd (by rfl) (Or.inl rfl) (pe_op op_sub (pv 9) (pv 7)))
      (pss_cons (ps_set (i := 14) sc__law_due.nd (by rfl) (Or.inl rfl) (pe_op op_sub (pe_op op_mulB (pv 10) (pv 13)) (pe_op op_mulB (pv 11) (pv 12))))
      (pss_cons (ps_set (i := 15) sc__law_due.nd (by rfl) (Or.inl rfl) (pe_op op_sub (pe_op op_mulB (pe_op op_sub (pv 6) (pv 2)) (pv 13)) (pe_op op_mulB (pe_op op_sub (pv 7) (pv 3)) (pv 12))))
      (pss_cons (ps_set (i := 16) sc__law_due.nd (by rfl) (Or.inl rfl) (pe_op op_sub (pe_op op_mulB (pe_op op_sub (pv 6) (pv 2)) (pv 11)) (pe_op op_mulB (pe_op op_sub (pv 7) (pv 3)) (pv 10))))
      (pss_cons (ps_if (pt_cmpR op_lt (pv 14) pe_int (nomark _))
      (pss_one (ps_ret (pe_and (pe_chain op_lt op_lt (pv 14) (pv 15) pe_int) (pe_one (pe_chain op_lt op_lt (pv 14) (pv 16) pe_int)))))
      pss_nil)
      (pss_one (ps_ret (pe_and (pe_chain op_lt op_lt pe_int (pv 15) (pv 14)) (pe_one (pe_chain op_lt op_lt pe_int (pv 16) (pv 14)))))))))))))))), ?_⟩
    refine ⟨_, rfl, S, _, rfl, SqT.of h1, rfl, _, _, rfl, ⟨p, _, rfl, SqT.of h2, rfl, _, _, rfl, _, _, rfl, rfl, _, _, rfl, ⟨q, _, rfl, SqT.of h3, rfl, _, _, rfl, _, _, rfl, rfl, rfl, ?_⟩⟩⟩
    refine ⟨_, rfl, T, _, rfl, SqT.of h4, rfl, _, _, rfl, ⟨p', _, rfl, SqT.of h5, rfl, _, _, rfl, _, _, rfl, rfl, _, _, rfl, ⟨q', _, rfl, SqT.of h6, rfl, _, _, rfl, _, _, rfl, rfl, rfl, ?_⟩⟩⟩
    rw [show L2.start N__law_due [V.ref S, V.ref T] = [some (.ref S), some (.ref T), none, none, none, none, none, none, none, none, none, none, none, none, none, none, none] from rfl]
    unfold gName
    simp only [List.set_cons_succ, List.set_cons_zero]
    refine ⟨_, rfl, _, rfl, _, _, rfl, rfl, ?_⟩
    refine ⟨_, rfl, _, rfl, _, _, rfl, rfl, ?_⟩
    refine ⟨_, rfl, _, rfl, _, _, rfl, rfl, ?_⟩
    refine ⟨_, rfl, _, rfl, _, _, rfl, rfl, ?_⟩
    have rx := z1.2.1.sub z1.1.1
    have ry := z1.2.2.sub z1.1.2
    have sx := z2.2.1.sub z2.1.1
    have sy := z2.2.2.sub z2.1.2
    have dx := z2.1.1.sub z1.1.1
    have dy := z2.1.2.sub z1.1.2
    refine ⟨_, rfl, _, rfl, _, _, rfl, rfl, rx.cm sy (by decide) (by decide), _, rfl, _, rfl, _, _, rfl, rfl, ry.cm sx (by decide) (by decide), _, _, rfl, rfl, ?_⟩
    refine ⟨_, rfl, _, rfl, _, _, rfl, rfl, _, rfl, _, _, rfl, rfl, dx.cm sy (by decide) (by decide), _, rfl, _, rfl, _, _, rfl, rfl, _, rfl, _, _, rfl, rfl, dy.cm sx (by decide) (by decide), _, _, rfl, rfl, ?_⟩
    refine ⟨_, rfl, _, rfl, _, _, rfl, rfl, _, rfl, _, _, rfl, rfl, dx.cm ry (by decide) (by decide), _, rfl, _, rfl, _, _, rfl, rfl, _, rfl, _, _, rfl, rfl, dy.cm rx (by decide) (by decide), _, _, rfl, rfl, ?_⟩
    unfold due duB at k
    refine ⟨_, rfl, _, _, rfl, rfl, _, rfl, ?_⟩
    refine ite2 (fun hy => ?_) (fun hn => ?_)
    · have hb := of_decide_eq_true hy
      rw [if_pos hb] at k
      refine ⟨_, rfl, _, rfl, _, _, rfl, rfl, _, rfl, ?_⟩
      refine ite2 (fun e1 => ⟨_, _, rfl, rfl, _, rfl, ite2 (fun e2 => ?_) (fun e2 => ?_)⟩) (fun e1 => ⟨_, rfl, iteF ?_⟩)
      · refine ⟨_, rfl, _, rfl, _, _, rfl, rfl, _, rfl, ?_⟩
        rw [e1, e2] at k
        refine ite2 (fun e3 => ⟨_, _, rfl, rfl, ?_⟩) (fun e3 => ?_)
        · rw [e3] at k; exact k
        · rw [Bool.eq_false_iff.mpr e3] at k; exact k
      · rw [e1, Bool.eq_false_iff.mpr e2] at k
        exact k
      · rw [Bool.eq_false_iff.mpr e1] at k; exact k
    · have hb := fun z => hn (decide_eq_true z)
      rw [if_neg hb] at k
      refine ⟨_, rfl, _, _, rfl, rfl, _, rfl, ?_⟩
      refine ite2 (fun e1 => ⟨_, rfl, _, _, rfl, rfl, _, rfl, ite2 (fun e2 => ?_) (fun e2 => ?_)⟩) (fun e1 => ⟨_, rfl, iteF ?_⟩)
      · refine ⟨_, rfl, _, _, rfl, rfl, _, rfl, ?_⟩
        rw [e1, e2] at k
        refine ite2 (fun e3 => ⟨_, rfl, _, _, rfl, rfl, ?_⟩) (fun e3 => ?_)
        · rw [e3] at k; exact k
        · rw [Bool.eq_false_iff.mpr e3] at k; exact k
      · rw [e1, Bool.eq_false_iff.mpr e2] at k
        exact k
      · rw [Bool.eq_false_iff.mpr e1] at k; exact k
def spCell (K : PySem.W.Frag) : Sp := fun vs H Q _ => ∃ (p f : Addr) (n : Nat) (sz : Int) (F : Cell), vs = [.ref p, .int sz, .ref f] ∧ HasB H p (n + 2) ∧ 0 < sz ∧ sz ≤ 1000 ∧ H f = some (.tup (cellT F)) ∧ Sm 102 F.1 ∧ Sm 102 F.2 ∧
  ∀ (q : Addr) (H' : Hp) (C : Cell), H q = none → H' q = some (.tup (cellT C)) → Sm 104 C.1 → Sm 104 C.2 → But H H' p → HasB H' p n → Q (.ref q) H'
theorem Sm.add10 {i r : Int} (h : Sm 102 i) (h0 : 0 ≤ r) (h1 : r < 1000) : Sm 104 (i + r) := by
  unfold Sm at *
  rw [show (2 : Nat) ^ 104 = 20282409603651670423947251286016 by decide +kernel]
  rw [show (2 : Nat) ^ 102 = 5070602400912917605986812821504 by decide +kernel] at h
  omega
theorem ok_law_cell (g__law_take : Tk P w K mg base) (d : Df K mg "_law_cell" s__law_cell ["_law_pen", "_law_size", "_law_far_here"]) : FnOk P w K mg base CX0 2 d.f d.fd ["_law_pen", "_law_size", "_law_far_here"] (spCell K) := by
  refine d.F.ok sc__law_cell (fun vs H Q E h => ?_) (fun cdv A outer s H vs Q E hr h => ?_)
  · obtain ⟨p, f, n, sz, F, rfl, _⟩ := h
    rfl
  · obtain ⟨p, f, n, sz, F, rfl, hp, h0, h1, hf, z1, z2, k⟩ := h
    refine ⟨_, (pss_one (ps_ret (pe_tup (pa_cons (pe_op op_add (pe_ix ix_tup (pv 2) pe_int (fun _ _ => rfl)) (pe_call g__law_take.ok (hr.mono (by decide)) (by rfl) g__law_take.m g__law_take.kp g__law_take.b .nil pass0 (pa_cons (pv 0) (pa_cons (pv 1) pa_nil)))) (pa_cons (pe_op op_add (pe_ix ix_tup (pv 2) pe_int (fun _ _ => rfl)) (pe_call g__law_take.ok (hr.mono (by decide)) (by rfl) g__law_take.m g__law_take.kp g__law_take.b .nil pass0 (pa_cons (pv 0) (pa_cons (pv 1) pa_nil)))) pa_nil))))), ?_⟩
    refine ⟨_, rfl, f, _, _, _, rfl, rfl, SqT.of hf, atI_nat (j := 0) rfl, _, rfl, _, rfl, p, n + 1, sz, rfl, hp, h0, small_log h0 h1, fun r H1 a1 c1 b1 p1 => ?_⟩
    have hf1 := b1.kt hp _ _ hf
    refine ⟨_, _, rfl, rfl, _, rfl, f, _, _, _, rfl, rfl, SqT.of hf1, atI_nat (j := 1) rfl, _, rfl, _, rfl, p, n, sz, rfl, p1, h0, small_log h0 h1, fun r2 H2 a2 c2 b2 p2 => ?_⟩
    refine ⟨_, _, rfl, rfl, two, fun q hq => ?_⟩
    have hq0 : H q = none := by
      cases x : H q with
      | none => rfl
      | some o =>
        by_cases e : q = p
        · subst e; obtain ⟨c, t, e2, _⟩ := p2; rw [e2] at hq; cases hq
        · rw [b2 q o e (b1 q o e x)] at hq; cases hq
    exact k q _ (F.1 + r, F.2 + r2) hq0 upd_same (z1.add10 a1 (by omega)) (z2.add10 a2 (by omega)) ((b1.trans b2).trans (But.of (Same.up hq))) (p2.same (Same.up hq))
end
end RR

namespace RR
open PySem L2 RP
/-- all but the pen stays, and the pen is good for n more turns -/
structure Ad (H H' : Hp) (p : Addr) (n : Nat) : Prop where
  but : But H H' p
  kt : KT H H'
  pen : HasB H' p n
theorem Ad.of {H H' : Hp} {p : Addr} {n m : Nat} (h : HasB H p m) (b : But H H' p) (g : HasB H' p n) : Ad H H' p n := ⟨b, b.kt h, g⟩
theorem Ad.then {H H1 H2 : Hp} {p : Addr} {n m : Nat} (a : Ad H H1 p n) (b : But H1 H2 p) (g : HasB H2 p m) : Ad H H2 p m := ⟨a.but.trans b, a.kt.trans (b.kt a.pen), g⟩
theorem Ad.up {H H1 : Hp} {p q : Addr} {n : Nat} {o : HO} (a : Ad H H1 p n) (h : H1 q = none) : Ad H (upd H1 q o) p n := a.then (But.of (Same.up h)) (a.pen.same (Same.up h))
theorem Ad.go {H H1 H2 : Hp} {p : Addr} {n m : Nat} (a : Ad H H1 p n) (b : Ad H1 H2 p m) : Ad H H2 p m := ⟨a.but.trans b.but, a.kt.trans b.kt, b.pen⟩
theorem smC {x y : Int} {n : Nat} (h1 : Sm n x) (h2 : Sm n y) (hn : n ≤ 110) : SmC (x, y) := ⟨h1.le hn, h2.le hn⟩
theorem Sm.dbl {a b : Int} (h : Sm 104 a) (g : Sm 104 b) : Sm 106 (2 * a - b) := by
  unfold Sm at *
  rw [show (2 : Nat) ^ 106 = 4 * 2 ^ 104 by decide +kernel]
  omega
section
variable {P : Program} {w : World} {K : PySem.W.Frag} {mg : Str → Option Value} {base : Heap}
def spSides (K : PySem.W.Frag) : Sp := fun vs H Q _ => ∃ (p : Addr), vs = [.ref p] ∧ HasB H p 60 ∧
  ∀ (q : Addr) (H' : Hp) (v u : V) (s t : Side), H' q = some (.tup [v, u]) → sideR s v H' → sideR t u H' → SmS s → SmS t → But H H' p → Q (.ref q) H'
theorem ok_law_sides (g__law_take : Tk P w K mg base) (g__law_far : Fn P w K mg base 2 "_law_far" ["_law_pen"] spFar) (g__law_cell : Fn P w K mg base 2 "_law_cell" ["_law_pen", "_law_size", "_law_far_here"] (spCell K))
    (d : Df K mg "_law_sides" s__law_sides ["_law_pen"]) : FnOk P w K mg base CX0 3 d.f d.fd ["_law_pen"] (spSides K) := by
  refine d.F.ok sc__law_sides (fun vs H Q E h => ?_) (fun cdv A outer s H vs Q E hr h => ?_)
  · obtain ⟨p, rfl, _⟩ := h
    rfl
  · obtain ⟨p, rfl, hp, k⟩ := h
    refine ⟨_, (pss_cons (ps_set (i := 1) sc__law_sides.nd (by rfl) (Or.inl rfl) (pe_op op_add pe_int (pe_call g__law_take.ok (hr.mono (by decide)) (by rfl) g__law_take.m g__law_take.kp g__law_take.b .nil pass0 (pa_cons (pv 0) (pa_cons pe_int pa_nil)))))
      (pss_cons (ps_set (i := 2) sc__law_sides.nd (by rfl) (Or.inl rfl) (pe_tup (pa_cons (pe_call g__law_far.ok (hr.mono (by decide)) (by rfl) g__law_far.m g__law_far.kp g__law_far.b .nil pass0 (pa_cons (pv 0) pa_nil)) (pa_cons (pe_call g__law_far.ok (hr.mono (by decide)) (by rfl) g__law_far.m g__law_far.kp g__law_far.b .nil pass0 (pa_cons (pv 0) pa_nil)) pa_nil))))
      (pss_cons (ps_if (pt_cmpR op_eq (pe_call g__law_take.ok (hr.mono (by decide)) (by rfl) g__law_take.m g__law_take.kp g__law_take.b .nil pass0 (pa_cons (pv 0) (pa_cons pe_int pa_nil))) pe_int (nomark _))
      (pss_cons (ps_set (i := 3) sc__law_sides.nd (by rfl) (Or.inl rfl) (pe_tup (pa_cons (pe_tup (pa_cons (pe_call g__law_far.ok (hr.mono (by decide)) (by rfl) g__law_far.m g__law_far.kp g__law_far.b .nil pass0 (pa_cons (pv 0) pa_nil)) (pa_cons (pe_call g__law_far.ok (hr.mono (by decide)) (by rfl) g__law_far.m g__law_far.kp g__law_far.b .nil pass0 (pa_cons (pv 0) pa_nil)) pa_nil))) (pa_cons (pe_tup (pa_cons (pe_call g__law_far.ok (hr.mono (by decide)) (by rfl) g__law_far.m g__law_far.kp g__law_far.b .nil pass0 (pa_cons (pv 0) pa_nil)) (pa_cons (pe_call g__law_far.ok (hr.mono (by decide)) (by rfl) g__law_far.m g__law_far.kp g__law_far.b .nil pass0 (pa_cons (pv 0) pa_nil)) pa_nil))) pa_nil))))
      (pss_one (ps_ret (pe_tup (pa_cons (pv 3) (pa_cons (pe_tup (pa_cons (pe_tup (pa_cons (pe_call g__law_far.ok (hr.mono (by decide)) (by rfl) g__law_far.m g__law_far.kp g__law_far.b .nil pass0 (pa_cons (pv 0) pa_nil)) (pa_cons (pe_call g__law_far.ok (hr.mono (by decide)) (by rfl) g__law_far.m g__law_far.kp g__law_far.b .nil pass0 (pa_cons (pv 0) pa_nil)) pa_nil))) (pa_cons (pe_tup (pa_cons (pe_call g__law_far.ok (hr.mono (by decide)) (by rfl) g__law_far.m g__law_far.kp g__law_far.b .nil pass0 (pa_cons (pv 0) pa_nil)) (pa_cons (pe_call g__law_far.ok (hr.mono (by decide)) (by rfl) g__law_far.m g__law_far.kp g__law_far.b .nil pass0 (pa_cons (pv 0) pa_nil)) pa_nil))) pa_nil))) pa_nil))))))
      pss_nil)
      (pss_cons (ps_set (i := 3) sc__law_sides.nd (by rfl) (Or.inl rfl) (pe_tup (pa_cons (pe_call g__law_cell.ok (hr.mono (by decide)) (by rfl) g__law_cell.m g__law_cell.kp g__law_cell.b .nil pass0 (pa_cons (pv 0) (pa_cons (pv 1) (pa_cons (pv 2) pa_nil)))) (pa_cons (pe_call g__law_cell.ok (hr.mono (by decide)) (by rfl) g__law_cell.m g__law_cell.kp g__law_cell.b .nil pass0 (pa_cons (pv 0) (pa_cons (pv 1) (pa_cons (pv 2) pa_nil)))) pa_nil))))
      (pss_cons (ps_set (i := 4) sc__law_sides.nd (by rfl) (Or.inl rfl) (pe_call g__law_cell.ok (hr.mono (by decide)) (by rfl) g__law_cell.m g__law_cell.kp g__law_cell.b .nil pass0 (pa_cons (pv 0) (pa_cons (pv 1) (pa_cons (pv 2) pa_nil)))))
      (pss_cons (ps_set (i := 5) sc__law_sides.nd (by rfl) (Or.inl rfl) (pe_call g__law_cell.ok (hr.mono (by decide)) (by rfl) g__law_cell.m g__law_cell.kp g__law_cell.b .nil pass0 (pa_cons (pv 0) (pa_cons (pv 1) (pa_cons (pv 2) pa_nil)))))
      (pss_cons (ps_set (i := 6) sc__law_sides.nd (by rfl) (Or.inl rfl) (pe_call g__law_take.ok (hr.mono (by decide)) (by rfl) g__law_take.m g__law_take.kp g__law_take.b .nil pass0 (pa_cons (pv 0) (pa_cons pe_int pa_nil))))
      (pss_cons (ps_if (pt_cmpR op_eq (pv 6) pe_int (nomark _))
      (pss_one (ps_set (i := 4) sc__law_sides.nd (by rfl) (Or.inl rfl) (pe_ix ix_tup (pv 3) (pe_call g__law_take.ok (hr.mono (by decide)) (by rfl) g__law_take.m g__law_take.kp g__law_take.b .nil pass0 (pa_cons (pv 0) (pa_cons pe_int pa_nil))) (fun _ _ => rfl))))
      pss_nil)
      (pss_cons (ps_if (pt_cmpR op_eq (pv 6) pe_int (nomark _))
      (pss_one (ps_set (i := 5) sc__law_sides.nd (by rfl) (Or.inl rfl) (pv 4)))
      pss_nil)
      (pss_cons (ps_if (pt_cmpR op_eq (pv 6) pe_int (nomark _))
      (pss_cons (ps_set (i := 4) sc__law_sides.nd (by rfl) (Or.inl rfl) (pe_tup (pa_cons (pe_op op_sub (pe_op op_mul pe_int (pe_ix ix_tup (pe_ix ix_tup (pv 3) pe_int (fun _ _ => rfl)) pe_int (fun _ _ => rfl))) (pe_ix ix_tup (pe_ix ix_tup (pv 3) pe_int (fun _ _ => rfl)) pe_int (fun _ _ => rfl))) (pa_cons (pe_op op_sub (pe_op op_mul pe_int (pe_ix ix_tup (pe_ix ix_tup (pv 3) pe_int (fun _ _ => rfl)) pe_int (fun _ _ => rfl))) (pe_ix ix_tup (pe_ix ix_tup (pv 3) pe_int (fun _ _ => rfl)) pe_int (fun _ _ => rfl))) pa_nil))))
      (pss_one (ps_set (i := 5) sc__law_sides.nd (by rfl) (Or.inl rfl) (pe_ix ix_tup (pv 3) pe_int (fun _ _ => rfl)))))
      pss_nil)
      (pss_one (ps_ret (pe_tup (pa_cons (pv 3) (pa_cons (pe_tup (pa_cons (pv 4) (pa_cons (pv 5) pa_nil))) pa_nil))))))))))))))), ?_⟩
    refine ⟨_, rfl, p, 59, 8, rfl, hp, by decide, small_log (by decide) (by decide), fun r H1 a1 c1 b1 p1 => ⟨_, _, rfl, rfl, ?_⟩⟩
    have A1 := Ad.of hp b1 p1
    refine ⟨_, rfl, p, 56, rfl, A1.pen, fun f1 H2 y1 b2 p2 => ⟨_, rfl, p, 53, rfl, p2, fun f2 H3 y2 b3 p3 => ⟨two, fun fa hfa => ?_⟩⟩⟩
    have A3 := ((A1.then b2 p2).then b3 p3).up (o := .tup [.int f1, .int f2]) hfa
    have efa : upd H3 fa (.tup [.int f1, .int f2]) fa = some (.tup (cellT (f1, f2))) := upd_same
    generalize upd H3 fa (.tup [.int f1, .int f2]) = H4 at A3 efa
    refine ⟨_, rfl, p, 52, 6, rfl, A3.pen, by decide, small_log (by decide) (by decide), fun r5 H5 _ _ b5 p5 => ⟨rfl, _, rfl, ?_⟩⟩
    have A5 := A3.then b5 p5
    have efa5 := b5.kt A3.pen _ _ efa
    refine ite2 (fun _ => ?_) (fun _ => ?_)
    · refine ⟨_, rfl, p, 49, rfl, A5.pen, fun x1 H6 z1 b6 p6 => ⟨_, rfl, p, 46, rfl, p6, fun x2 H7 z2 b7 p7 => ⟨two, fun e1 he1 => ?_⟩⟩⟩
      have A7 := ((A5.then b6 p6).then b7 p7).up (o := .tup [.int x1, .int x2]) he1
      have q1 : upd H7 e1 (.tup [.int x1, .int x2]) e1 = some (.tup (cellT (x1, x2))) := upd_same
      generalize upd H7 e1 (.tup [.int x1, .int x2]) = H8 at A7 q1
      refine ⟨_, rfl, p, 43, rfl, A7.pen, fun x3 H9 z3 b9 p9 => ⟨_, rfl, p, 40, rfl, p9, fun x4 H10 z4 b10 p10 => ⟨two, fun e2 he2 => ?_⟩⟩⟩
      have B10 := ((Ad.of A7.pen b9 p9).then b10 p10).up (o := .tup [.int x3, .int x4]) he2
      have q2 : upd H10 e2 (.tup [.int x3, .int x4]) e2 = some (.tup (cellT (x3, x4))) := upd_same
      generalize upd H10 e2 (.tup [.int x3, .int x4]) = H11 at B10 q2
      refine ⟨two, fun S hS => ?_⟩
      have B11 := B10.up (o := .tup [.ref e1, .ref e2]) hS
      have q3 : upd H11 S (.tup [.ref e1, .ref e2]) S = some (.tup [.ref e1, .ref e2]) := upd_same
      have q2' := KT.of (Same.up (o := .tup [.ref e1, .ref e2]) hS) _ _ q2
      generalize upd H11 S (.tup [.ref e1, .ref e2]) = H12 at B11 q3 q2'
      have hs12 : sideR ((x1, x2), (x3, x4)) (.ref S) H12 := ⟨S, e1, e2, rfl, q3, B11.kt _ _ q1, q2'⟩
      have A12 := A7.go B11
      refine ⟨_, rfl, _, rfl, p, 37, rfl, A12.pen, fun x5 H13 z5 b13 p13 => ⟨_, rfl, p, 34, rfl, p13, fun x6 H14 z6 b14 p14 => ⟨two, fun e3 he3 => ?_⟩⟩⟩
      have B14 := ((Ad.of A12.pen b13 p13).then b14 p14).up (o := .tup [.int x5, .int x6]) he3
      have q4 : upd H14 e3 (.tup [.int x5, .int x6]) e3 = some (.tup (cellT (x5, x6))) := upd_same
      generalize upd H14 e3 (.tup [.int x5, .int x6]) = H15 at B14 q4
      refine ⟨_, rfl, p, 31, rfl, B14.pen, fun x7 H16 z7 b16 p16 => ⟨_, rfl, p, 28, rfl, p16, fun x8 H17 z8 b17 p17 => ⟨two, fun e4 he4 => ?_⟩⟩⟩
      have B17 := ((Ad.of B14.pen b16 p16).then b17 p17).up (o := .tup [.int x7, .int x8]) he4
      have q5 : upd H17 e4 (.tup [.int x7, .int x8]) e4 = some (.tup (cellT (x7, x8))) := upd_same
      generalize upd H17 e4 (.tup [.int x7, .int x8]) = H18 at B17 q5
      refine ⟨two, fun T hT => ⟨two, fun q hq => ?_⟩⟩
      have B18 := B17.up (o := .tup [.ref e3, .ref e4]) hT
      have q6 : upd H18 T (.tup [.ref e3, .ref e4]) T = some (.tup [.ref e3, .ref e4]) := upd_same
      have q5' := KT.of (Same.up (o := .tup [.ref e3, .ref e4]) hT) _ _ q5
      generalize upd H18 T (.tup [.ref e3, .ref e4]) = H19 at B18 q6 q5' hq
      have ht19 : sideR ((x5, x6), (x7, x8)) (.ref T) H19 := ⟨T, e3, e4, rfl, q6, B18.kt _ _ q4, q5'⟩
      have A19 := (A12.go B14).go B18
      have ku := KT.of (Same.up (o := .tup [.ref S, .ref T]) hq)
      exact k q _ (.ref S) (.ref T) _ _ upd_same ((hs12.kt (B14.go B18).kt).kt ku) (ht19.kt ku) ⟨smC z1 z2 (by decide), smC z3 z4 (by decide)⟩ ⟨smC z5 z6 (by decide), smC z7 z8 (by decide)⟩ (A19.up hq).but
    · have hsz : 0 < 2 + r ∧ 2 + r ≤ 1000 := ⟨by omega, by omega⟩
      refine ⟨_, rfl, _, rfl, _, rfl, p, fa, 50, 2 + r, (f1, f2), rfl, A5.pen, hsz.1, hsz.2, efa5, y1, y2, fun e1 H6 C1 _ q1 u1 u2 b6 p6 => ?_⟩
      have A6 := A5.then b6 p6
      have efa6 := b6.kt A5.pen _ _ efa5
      refine ⟨_, rfl, _, rfl, _, rfl, p, fa, 48, 2 + r, (f1, f2), rfl, p6, hsz.1, hsz.2, efa6, y1, y2, fun e2 H7 C2 _ q2 u3 u4 b7 p7 => ⟨two, fun S hS => ?_⟩⟩
      have B7 := (Ad.of p6 b7 p7).up (o := .tup [.ref e1, .ref e2]) hS
      have q3 : upd H7 S (.tup [.ref e1, .ref e2]) S = some (.tup [.ref e1, .ref e2]) := upd_same
      have q2' := KT.of (Same.up (o := .tup [.ref e1, .ref e2]) hS) _ _ q2
      generalize upd H7 S (.tup [.ref e1, .ref e2]) = H8 at B7 q3 q2'
      have hs8 : sideR (C1, C2) (.ref S) H8 := ⟨S, e1, e2, rfl, q3, B7.kt _ _ q1, q2'⟩
      have zS : SmS (C1, C2) := ⟨⟨u1.le (by decide), u2.le (by decide)⟩, ⟨u3.le (by decide), u4.le (by decide)⟩⟩
      have A8 := A6.go B7
      refine ⟨_, rfl, _, rfl, _, rfl, p, fa, 46, 2 + r, (f1, f2), rfl, A8.pen, hsz.1, hsz.2, B7.kt _ _ efa6, y1, y2, fun e3 H9 C3 _ q4 u5 u6 b9 p9 => ?_⟩
      have A9 := A8.then b9 p9
      have efa9 := b9.kt A8.pen _ _ (B7.kt _ _ efa6)
      refine ⟨_, rfl, _, rfl, _, rfl, p, fa, 44, 2 + r, (f1, f2), rfl, p9, hsz.1, hsz.2, efa9, y1, y2, fun e4 H10 C4 _ q5 u7 u8 b10 p10 => ?_⟩
      have A10 := A9.then b10 p10
      have q4' := b10.kt p9 _ _ q4
      have hs10 := (hs8.kt (b9.kt A8.pen)).kt (b10.kt p9)
      refine ⟨_, rfl, p, 43, 5, rfl, A10.pen, by decide, small_log (by decide) (by decide), fun wy H11 w0 w5 b11 p11 => ?_⟩
      have A11 := A10.then b11 p11
      have kt11 := b11.kt A10.pen
      have hs11 := hs10.kt kt11
      have e3' := kt11 _ _ q4'
      have e4' := kt11 _ _ q5
      have z3 : SmC C3 := ⟨u5.le (by decide), u6.le (by decide)⟩
      have z4 : SmC C4 := ⟨u7.le (by decide), u8.le (by decide)⟩
      have fin : ∀ (Hx : Hp) (f g : Addr) (C D : Cell) (n : Nat), Ad H Hx p n → sideR (C1, C2) (.ref S) Hx → Hx f = some (.tup (cellT C)) → Hx g = some (.tup (cellT D)) → SmC C → SmC D → ∀ T, Hx T = none → ∀ q, upd Hx T (.tup [.ref f, .ref g]) q = none →
          Q (.ref q) (upd (upd Hx T (.tup [.ref f, .ref g])) q (.tup [.ref S, .ref T])) := by
        intro Hx f g C D n a hs hf hg zc zd T hT q hq
        have kT := KT.of (Same.up (o := .tup [.ref f, .ref g]) hT)
        have kq := KT.of (Same.up (o := .tup [.ref S, .ref T]) hq)
        have ht : sideR (C, D) (.ref T) (upd Hx T (.tup [.ref f, .ref g])) := ⟨T, f, g, rfl, upd_same, kT _ _ hf, kT _ _ hg⟩
        exact k q _ (.ref S) (.ref T) _ _ upd_same ((hs.kt kT).kt kq) (ht.kt kq) zS ⟨zc, zd⟩ ((a.up hT).up hq).but
      obtain ⟨S', g1, g2, eS, hS1, hg1, hg2⟩ := id hs11
      cases eS
      have hw : wy = 0 ∨ wy = 1 ∨ wy = 2 ∨ (wy ≠ 0 ∧ wy ≠ 1 ∧ wy ≠ 2) := by omega
      rcases hw with rfl | rfl | rfl | ⟨n0, n1, n2⟩
      · refine ⟨_, rfl, rfl, _, rfl, ite2 (fun _ => ?_) (fun hn => absurd (decide_eq_true rfl) hn)⟩
        refine ⟨_, rfl, _, rfl, p, 42, 2, rfl, A11.pen, by decide, small_log (by decide) (by decide), fun r2 H12 a2 c2 b12 p12 => ?_⟩
        have k12 := b12.kt A11.pen
        have hr2 : r2 = 0 ∨ r2 = 1 := by omega
        rcases hr2 with rfl | rfl
        · refine ⟨S, _, _, _, rfl, rfl, SqT.of (k12 _ _ hS1), atI_nat (j := 0) rfl, ?_⟩
          refine ⟨_, rfl, rfl, _, rfl, ite2 (fun hy => absurd (of_decide_eq_true hy) (by decide)) (fun _ => ?_)⟩
          refine ⟨_, rfl, rfl, _, rfl, ite2 (fun hy => absurd (of_decide_eq_true hy) (by decide)) (fun _ => ?_)⟩
          exact ⟨_, rfl, _, rfl, _, rfl, two, fun T hT => ⟨two, fun q hq => fin H12 _ _ C1 C4 _ (A11.then b12 p12) (hs11.kt k12) (k12 _ _ hg1) (k12 _ _ e4') zS.1 z4 T hT q hq⟩⟩
        · refine ⟨S, _, _, _, rfl, rfl, SqT.of (k12 _ _ hS1), atI_nat (j := 1) rfl, ?_⟩
          refine ⟨_, rfl, rfl, _, rfl, ite2 (fun hy => absurd (of_decide_eq_true hy) (by decide)) (fun _ => ?_)⟩
          refine ⟨_, rfl, rfl, _, rfl, ite2 (fun hy => absurd (of_decide_eq_true hy) (by decide)) (fun _ => ?_)⟩
          exact ⟨_, rfl, _, rfl, _, rfl, two, fun T hT => ⟨two, fun q hq => fin H12 _ _ C2 C4 _ (A11.then b12 p12) (hs11.kt k12) (k12 _ _ hg2) (k12 _ _ e4') zS.2 z4 T hT q hq⟩⟩
      · refine ⟨_, rfl, rfl, _, rfl, ite2 (fun hy => absurd (of_decide_eq_true hy) (by decide)) (fun _ => ?_)⟩
        refine ⟨_, rfl, rfl, _, rfl, ite2 (fun _ => ?_) (fun hn => absurd (decide_eq_true rfl) hn)⟩
        refine ⟨_, rfl, ?_⟩
        refine ⟨_, rfl, rfl, _, rfl, ite2 (fun hy => absurd (of_decide_eq_true hy) (by decide)) (fun _ => ?_)⟩
        exact ⟨_, rfl, _, rfl, _, rfl, two, fun T hT => ⟨two, fun q hq => fin H11 _ _ C3 C3 _ A11 hs11 e3' e3' z3 z3 T hT q hq⟩⟩
      · refine ⟨_, rfl, rfl, _, rfl, ite2 (fun hy => absurd (of_decide_eq_true hy) (by decide)) (fun _ => ?_)⟩
        refine ⟨_, rfl, rfl, _, rfl, ite2 (fun hy => absurd (of_decide_eq_true hy) (by decide)) (fun _ => ?_)⟩
        refine ⟨_, rfl, rfl, _, rfl, ite2 (fun _ => ?_) (fun hn => absurd (decide_eq_true rfl) hn)⟩
        refine ⟨_, rfl, S, _, _, _, rfl, rfl, SqT.of hS1, atI_nat (j := 1) rfl, g2, _, _, _, rfl, rfl, SqT.of hg2, atI_nat (j := 0) rfl, _, _, rfl, rfl, .inl ⟨by decide, by decide⟩, ?_⟩
        refine ⟨_, rfl, S, _, _, _, rfl, rfl, SqT.of hS1, atI_nat (j := 0) rfl, g1, _, _, _, rfl, rfl, SqT.of hg1, atI_nat (j := 0) rfl, _, _, rfl, rfl, ?_⟩
        refine ⟨_, rfl, S, _, _, _, rfl, rfl, SqT.of hS1, atI_nat (j := 1) rfl, g2, _, _, _, rfl, rfl, SqT.of hg2, atI_nat (j := 1) rfl, _, _, rfl, rfl, .inl ⟨by decide, by decide⟩, ?_⟩
        refine ⟨_, rfl, S, _, _, _, rfl, rfl, SqT.of hS1, atI_nat (j := 0) rfl, g1, _, _, _, rfl, rfl, SqT.of hg1, atI_nat (j := 1) rfl, _, _, rfl, rfl, two, fun e5 he5 => ?_⟩
        have k12 := KT.of (Same.up (o := .tup [.int (2 * C2.1 - C1.1), .int (2 * C2.2 - C1.2)]) he5)
        refine ⟨_, rfl, S, _, _, _, rfl, rfl, SqT.of (k12 _ _ hS1), atI_nat (j := 0) rfl, ?_⟩
        refine ⟨_, rfl, _, rfl, _, rfl, two, fun T hT => ⟨two, fun q hq => ?_⟩⟩
        exact fin _ _ _ (2 * C2.1 - C1.1, 2 * C2.2 - C1.2) C1 _ (A11.up he5) (hs11.kt k12) upd_same (k12 _ _ hg1) ⟨(u3.dbl u1).le (by decide), (u4.dbl u2).le (by decide)⟩ zS.1 T hT q hq
      · refine ⟨_, rfl, rfl, _, rfl, ite2 (fun hy => absurd (of_decide_eq_true hy) (fun z => n0 (by injection z))) (fun _ => ?_)⟩
        refine ⟨_, rfl, rfl, _, rfl, ite2 (fun hy => absurd (of_decide_eq_true hy) (fun z => n1 (by injection z))) (fun _ => ?_)⟩
        refine ⟨_, rfl, rfl, _, rfl, ite2 (fun hy => absurd (of_decide_eq_true hy) (fun z => n2 (by injection z))) (fun _ => ?_)⟩
        exact ⟨_, rfl, _, rfl, _, rfl, two, fun T hT => ⟨two, fun q hq => fin H11 _ _ C3 C4 _ A11 hs11 e3' e4' z3 z4 T hT q hq⟩⟩
end
end RR

namespace RR
open PySem L2 RP
theorem same_of_but {H0 H H' : Hp} {p : Addr} (s : Same H0 H) (b : But H H' p) (hp : H0 p = none) : Same H0 H' := fun z o h => b z o (ne_of_none h hp) (s z o h)
theorem iteN {b : Bool} {A B : Prop} (h : b = false) (q : B) : if b = true then A else B := by subst h; exact iteF q
def pairR (q : Side × Side) (v : V) (H : Hp) : Prop := ∃ A x y, v = .ref A ∧ H A = some (.tup [x, y]) ∧ sideR q.1 x H ∧ sideR q.2 y H
theorem pairR.same {q : Side × Side} {v : V} {H H' : Hp} (h : pairR q v H) (s : Same H H') : pairR q v H' := let ⟨A, x, y, e, h1, h2, h3⟩ := h; ⟨A, x, y, e, s _ _ h1, h2.kt (KT.of s), h3.kt (KT.of s)⟩
section
variable {P : Program} {w : World} {K : PySem.W.Frag} {mg : Str → Option Value} {base : Heap}
def spLaw (K : PySem.W.Frag) : Sp := fun vs H Q _ => ∃ (a : Addr) (ns : List Int), vs = [.ref a] ∧ SqL K H a (ns.map V.int) ∧ ns.length ≤ 63 ∧ ∀ H', Q (.bl true) H'
theorem ok_law (T : Txt P w K mg) (g_do_cross : Fn P w K mg base 3 "do_cross" ["one", "other"] (spCross K)) (g__law_cell_at : Fn P w K mg base 1 "_law_cell_at" ["_law_script", "_law_k"] (spCellAt K))
    (g__law_sides : Fn P w K mg base 3 "_law_sides" ["_law_pen"] (spSides K)) (g__law_due : Fn P w K mg base 1 "_law_due" ["_law_one", "_law_other"] (spDue K))
    (d : Df K mg "law" s_law ["_law_script"]) : FnOk P w K mg base CX0 4 d.f d.fd ["_law_script"] (spLaw K) := by
  refine d.F.ok sc_law (fun vs H Q E h => ?_) (fun cdv A outer s H vs Q E hr h => ?_)
  · obtain ⟨a, ns, rfl, _⟩ := h
    rfl
  · obtain ⟨a, ns, rfl, hS, hlen, k⟩ := h
    refine ⟨_, (pss_cons (ps_for PassesOwn.never rfl (pi_range1 (by rfl) T.nrange (pa_cons (pe_callB (call_max2 rfl) (by rfl) T.nmax (by rfl) (pa_cons pe_int (pa_cons (pe_callB (call_min2 rfl) (by rfl) T.nmin (by rfl) (pa_cons pe_int (pa_cons (pe_callB call_len_seq (by rfl) T.nlen (by rfl) (pa_cons (pv 0) pa_nil)) pa_nil))) pa_nil))) pa_nil)) (pg_name (i := 1) sc_law.nd (by rfl) (Or.inl rfl))
      (pss_cons (ps_asg (pe_call g__law_sides.ok (hr.mono (by decide)) (by rfl) g__law_sides.m g__law_sides.kp g__law_sides.b .nil pass0 (pa_cons (pe_lst (pa_cons (pe_call g__law_cell_at.ok (hr.mono (by decide)) (by rfl) g__law_cell_at.m g__law_cell_at.kp g__law_cell_at.b .nil pass0 (pa_cons (pv 0) (pa_cons (pv 1) pa_nil))) (pa_cons pe_int pa_nil))) pa_nil)) (pg_tup (by rfl) (pgs_cons (pg_name (i := 2) sc_law.nd (by rfl) (Or.inl rfl)) (pgs_cons (pg_name (i := 3) sc_law.nd (by rfl) (Or.inl rfl)) pgs_nil))))
      (pss_cons (ps_set (i := 4) sc_law.nd (by rfl) (Or.inl rfl) (pe_call g__law_due.ok (hr.mono (by decide)) (by rfl) g__law_due.m g__law_due.kp g__law_due.b .nil pass0 (pa_cons (pv 2) (pa_cons (pv 3) pa_nil))))
      (pss_one (ps_for PassesOwn.never rfl (pi_list (pe_lst (pa_cons (pe_tup (pa_cons (pv 2) (pa_cons (pv 3) pa_nil))) (pa_cons (pe_tup (pa_cons (pv 3) (pa_cons (pv 2) pa_nil))) (pa_cons (pe_tup (pa_cons (pe_rev2 (pv 2) (pe_un un_neg pe_int)) (pa_cons (pv 3) pa_nil))) (pa_cons (pe_tup (pa_cons (pv 2) (pa_cons (pe_rev2 (pv 3) (pe_un un_neg pe_int)) pa_nil))) pa_nil)))))) (pg_tup (by rfl) (pgs_cons (pg_name (i := 5) sc_law.nd (by rfl) (Or.inl rfl)) (pgs_cons (pg_name (i := 6) sc_law.nd (by rfl) (Or.inl rfl)) pgs_nil)))
      (pss_cons (ps_set (i := 7) sc_law.nd (by rfl) (Or.inl rfl) (pe_call g_do_cross.ok (hr.mono (by decide)) (by rfl) g_do_cross.m g_do_cross.kp g_do_cross.b .nil pass0 (pa_cons (pv 5) (pa_cons (pv 6) pa_nil))))
      (pss_one (ps_if (pw_or (pt_not (pt_val (pe_callB call_isi (by rfl) T.nisinstance (by rfl) (pa_cons (pv 7) (pa_cons (pe_bltn (v := .ty "bool") (by rfl) T.nbool (by rfl) rfl) pa_nil))))) (pw_or1 (pt_cmpR op_ne (pv 7) (pv 4) (nomark _)))).pt
      (pss_one (ps_ret pe_bl))
      pss_nil))))))))
      (pss_one (ps_ret pe_bl))), ?_⟩
    refine ⟨_, rfl, a, _, rfl, .inl hS, _, _, rfl, _, _, rfl, _, rfl, ?_, ?_, ?_⟩
    · split <;> omega
    · split
      · split <;> omega
      · decide
    refine for_range (lo := 0) (fun i σ H3 => ∃ o1 o2 o3 o4 o5 o6 o7, σ = [some (.ref a), o1, o2, o3, o4, o5, o6, o7] ∧ Same H H3) ⟨_, _, _, _, _, _, _, rfl, Same.refl _⟩ ?_ ?_
    · rintro i σ H3 hi ⟨o1, o2, o3, o4, o5, o6, o7, rfl, s3⟩
      refine ⟨_, rfl, _, rfl, a, ns, i, (by rw [show ((0 : Int) + (i : Int)) = (i : Int) by omega]; rfl), s3.seq hS, fun c => ⟨two, fun p hp => ?_⟩⟩
      have hp0 : H p = none := s3.free hp
      have sp : Same H (upd H3 p (.lst [.int c, .int 0])) := s3.trans (Same.up hp)
      have pen0 : HasB (upd H3 p (.lst [.int c, .int 0])) p 60 := ⟨c, 0, upd_same, by decide, by decide⟩
      generalize upd H3 p (.lst [.int c, .int 0]) = H4 at sp pen0
      refine ⟨p, rfl, pen0, fun q H5 v u s t hq hs ht zs zt b5 => ?_⟩
      have s5 : Same H H5 := same_of_but sp b5 hp0
      refine ⟨q, _, rfl, SqT.of hq, rfl, _, _, rfl, _, _, rfl, rfl, ?_⟩
      refine ⟨_, rfl, _, rfl, v, u, s, t, rfl, hs, ht, zs, zt, ?_⟩
      refine ⟨_, rfl, _, rfl, two, fun t1 ht1 => ?_⟩
      have S6 : Same H5 (upd H5 t1 (.tup [v, u])) := Same.up ht1
      have P1 : pairR (s, t) (.ref t1) (upd H5 t1 (.tup [v, u])) := ⟨t1, v, u, rfl, upd_same, hs.kt (KT.of S6), ht.kt (KT.of S6)⟩
      generalize upd H5 t1 (.tup [v, u]) = H6 at S6 P1
      refine ⟨_, rfl, _, rfl, two, fun t2 ht2 => ?_⟩
      have S7 : Same H6 (upd H6 t2 (.tup [u, v])) := Same.up ht2
      have S57 := S6.trans S7
      have P2 : pairR (t, s) (.ref t2) (upd H6 t2 (.tup [u, v])) := ⟨t2, u, v, rfl, upd_same, ht.kt (KT.of S57), hs.kt (KT.of S57)⟩
      generalize upd H6 t2 (.tup [u, v]) = H7 at S7 S57 P2
      obtain ⟨SA, a1, a2, rfl, hA, hA1, hA2⟩ := hs.kt (KT.of S57)
      refine ⟨_, rfl, _, rfl, rfl, SA, _, _, rfl, SqT.of hA, fun e1 he1 => ?_⟩
      have S8 : Same H7 (upd H7 e1 (.tup [.ref a2, .ref a1])) := Same.up he1
      have R1 : sideR (rv s) (.ref e1) (upd H7 e1 (.tup [.ref a2, .ref a1])) := ⟨e1, a2, a1, rfl, upd_same, S8 _ _ hA2, S8 _ _ hA1⟩
      generalize upd H7 e1 (.tup [.ref a2, .ref a1]) = H8 at S8 R1
      refine ⟨_, rfl, two, fun t3 ht3 => ?_⟩
      have S9 : Same H8 (upd H8 t3 (.tup [.ref e1, u])) := Same.up ht3
      have S59 := S57.trans (S8.trans S9)
      have P3 : pairR (rv s, t) (.ref t3) (upd H8 t3 (.tup [.ref e1, u])) := ⟨t3, .ref e1, u, rfl, upd_same, R1.kt (KT.of S9), ht.kt (KT.of S59)⟩
      generalize upd H8 t3 (.tup [.ref e1, u]) = H9 at S9 S59 P3
      obtain ⟨TA, b1, b2, rfl, hB, hB1, hB2⟩ := ht.kt (KT.of S59)
      refine ⟨_, rfl, _, rfl, _, rfl, rfl, TA, _, _, rfl, SqT.of hB, fun e2 he2 => ?_⟩
      have S10 : Same H9 (upd H9 e2 (.tup [.ref b2, .ref b1])) := Same.up he2
      have R2 : sideR (rv t) (.ref e2) (upd H9 e2 (.tup [.ref b2, .ref b1])) := ⟨e2, b2, b1, rfl, upd_same, S10 _ _ hB2, S10 _ _ hB1⟩
      generalize upd H9 e2 (.tup [.ref b2, .ref b1]) = H10 at S10 R2
      refine ⟨two, fun t4 ht4 => ?_⟩
      have S11 : Same H10 (upd H10 t4 (.tup [.ref SA, .ref e2])) := Same.up ht4
      have S511 := S59.trans (S10.trans S11)
      have P4 : pairR (s, rv t) (.ref t4) (upd H10 t4 (.tup [.ref SA, .ref e2])) := ⟨t4, .ref SA, .ref e2, rfl, upd_same, hs.kt (KT.of S511), R2.kt (KT.of S11)⟩
      generalize upd H10 t4 (.tup [.ref SA, .ref e2]) = H11 at S11 S511 P4
      refine ⟨four, fun L hL => ⟨L, rfl, ⟨_, SqL.of upd_same⟩, ?_⟩⟩
      have S12 : Same H11 (upd H11 L (.lst [.ref t1, .ref t2, .ref t3, .ref t4])) := Same.up hL
      have eL : upd H11 L (.lst [.ref t1, .ref t2, .ref t3, .ref t4]) L = some (.lst [.ref t1, .ref t2, .ref t3, .ref t4]) := upd_same
      generalize upd H11 L (.lst [.ref t1, .ref t2, .ref t3, .ref t4]) = H12 at S12 eL
      have all : ∀ x ∈ [V.ref t1, V.ref t2, V.ref t3, V.ref t4], ∃ pq : Side × Side, pairR pq x H12 ∧ SmS pq.1 ∧ SmS pq.2 ∧ cross pq.1 pq.2 = due s t := by
        have zrs : SmS (rv s) := ⟨zs.2, zs.1⟩
        have zrt : SmS (rv t) := ⟨zt.2, zt.1⟩
        intro x hx
        simp only [List.mem_cons, List.not_mem_nil, or_false] at hx
        rcases hx with rfl | rfl | rfl | rfl
        · exact ⟨_, P1.same (S7.trans (S8.trans (S9.trans (S10.trans (S11.trans S12))))), zs, zt, cross_due _ _⟩
        · exact ⟨_, P2.same (S8.trans (S9.trans (S10.trans (S11.trans S12)))), zt, zs, by rw [cross_comm]; exact cross_due _ _⟩
        · exact ⟨_, P3.same (S10.trans (S11.trans S12)), zrs, zt, by rw [cross_rv]; exact cross_due _ _⟩
        · exact ⟨_, P4.same S12, zs, zrt, by show cross s (rv t) = _; rw [cross_comm, cross_rv, cross_comm]; exact cross_due _ _⟩
      refine for_list (K := K) (a := L) (xs := [.ref t1, .ref t2, .ref t3, .ref t4]) (fun j σ H13 => ∃ o5 o6 o7, σ = [some (.ref a), some (.int (0 + (i : Int))), some (.ref SA), some (.ref TA), some (.bl (due s t)), o5, o6, o7] ∧ H13 = H12)
        ⟨_, _, _, rfl, rfl⟩ (fun j σ H13 _ ⟨_, _, _, _, e⟩ => by rw [e]; exact SqL.of eL) ?_ ?_
      · rintro j x σ H13 hj ⟨o5, o6, o7, rfl, rfl⟩
        obtain ⟨pq, ⟨B, x1, x2, rfl, hB', hx1, hx2⟩, zz1, zz2, ec⟩ := all x (List.mem_of_getElem? hj)
        refine ⟨B, _, rfl, SqT.of hB', rfl, _, _, rfl, _, _, rfl, rfl, ?_⟩
        refine ⟨_, rfl, _, rfl, x1, x2, pq.1, pq.2, rfl, hx1, hx2, zz1, zz2, ?_⟩
        rw [ec]
        refine ⟨_, rfl, .bl (due s t), "bool", _, true, rfl, .bl _, kit_same _ _, _, rfl, iteF ?_⟩
        refine ⟨_, rfl, _, rfl, rfl, _, rfl, iteN ?_ ?_⟩
        · rw [decide_eq_true rfl]; rfl
        · exact ⟨_, _, _, rfl, rfl⟩
      · rintro σ H13 ⟨o5, o6, o7, rfl, rfl⟩
        exact ⟨_, _, _, _, _, _, _, rfl, s5.trans (S511.trans S12)⟩
    · rintro σ H3 ⟨o1, o2, o3, o4, o5, o6, o7, rfl, s3⟩
      exact k H3
end
end RR

-- LAST TEXT
namespace RR
open PySem L2 RP
theorem all_mk {l : PySem.W.OpenLaw} {w : World} {K : PySem.W.Frag} {h : Heap} {mg : Str → Option Value} {fa : Addr} (X : K.In h) (G : h.Ns mainGlobals mg) (hfa : mg "law" = some (.ref fa))
    {f0 : Addr} {od0 an0 : Option Addr} {sl0 : Array (Option Value)} {oc0 kV0 dc0 pm0 cd0 ct0 : Value}
    (a0 : PySem.W.nsIn K mainGlobals "across" = some (some (.ref f0))) (l0 : K.lookup f0 = some ⟨oc0, od0, .func (PySem.W.fnOf "across" "across" (defArgs s_across) (defBody s_across) (defScope s_across) .none kV0 dc0 pm0 an0 cd0 ct0), sl0⟩) (c0 : PySem.W.codeIn K cd0 "across" = true) (k0 : PySem.W.keepIn K (.ref f0) = true)
    {f1 : Addr} {od1 an1 : Option Addr} {sl1 : Array (Option Value)} {oc1 kV1 dc1 pm1 cd1 ct1 : Value}
    (a1 : PySem.W.nsIn K mainGlobals "do_part" = some (some (.ref f1))) (l1 : K.lookup f1 = some ⟨oc1, od1, .func (PySem.W.fnOf "do_part" "do_part" (defArgs s_do_part) (defBody s_do_part) (defScope s_do_part) .none kV1 dc1 pm1 an1 cd1 ct1), sl1⟩) (c1 : PySem.W.codeIn K cd1 "do_part" = true) (k1 : PySem.W.keepIn K (.ref f1) = true)
    {f2 : Addr} {od2 an2 : Option Addr} {sl2 : Array (Option Value)} {oc2 kV2 dc2 pm2 cd2 ct2 : Value}
    (a2 : PySem.W.nsIn K mainGlobals "do_cross" = some (some (.ref f2))) (l2 : K.lookup f2 = some ⟨oc2, od2, .func (PySem.W.fnOf "do_cross" "do_cross" (defArgs s_do_cross) (defBody s_do_cross) (defScope s_do_cross) .none kV2 dc2 pm2 an2 cd2 ct2), sl2⟩) (c2 : PySem.W.codeIn K cd2 "do_cross" = true) (k2 : PySem.W.keepIn K (.ref f2) = true)
    {f3 : Addr} {od3 an3 : Option Addr} {sl3 : Array (Option Value)} {oc3 kV3 dc3 pm3 cd3 ct3 : Value}
    (a3 : PySem.W.nsIn K mainGlobals "_law_cell_at" = some (some (.ref f3))) (l3 : K.lookup f3 = some ⟨oc3, od3, .func (PySem.W.fnOf "_law_cell_at" "_law_cell_at" (defArgs s__law_cell_at) (defBody s__law_cell_at) (defScope s__law_cell_at) .none kV3 dc3 pm3 an3 cd3 ct3), sl3⟩) (c3 : PySem.W.codeIn K cd3 "_law_cell_at" = true) (k3 : PySem.W.keepIn K (.ref f3) = true)
    {f4 : Addr} {od4 an4 : Option Addr} {sl4 : Array (Option Value)} {oc4 kV4 dc4 pm4 cd4 ct4 : Value}
    (a4 : PySem.W.nsIn K mainGlobals "_law_take" = some (some (.ref f4))) (l4 : K.lookup f4 = some ⟨oc4, od4, .func (PySem.W.fnOf "_law_take" "_law_take" (defArgs s__law_take) (defBody s__law_take) (defScope s__law_take) .none kV4 dc4 pm4 an4 cd4 ct4), sl4⟩) (c4 : PySem.W.codeIn K cd4 "_law_take" = true) (k4 : PySem.W.keepIn K (.ref f4) = true)
    {f5 : Addr} {od5 an5 : Option Addr} {sl5 : Array (Option Value)} {oc5 kV5 dc5 pm5 cd5 ct5 : Value}
    (a5 : PySem.W.nsIn K mainGlobals "_law_far" = some (some (.ref f5))) (l5 : K.lookup f5 = some ⟨oc5, od5, .func (PySem.W.fnOf "_law_far" "_law_far" (defArgs s__law_far) (defBody s__law_far) (defScope s__law_far) .none kV5 dc5 pm5 an5 cd5 ct5), sl5⟩) (c5 : PySem.W.codeIn K cd5 "_law_far" = true) (k5 : PySem.W.keepIn K (.ref f5) = true)
    {f6 : Addr} {od6 an6 : Option Addr} {sl6 : Array (Option Value)} {oc6 kV6 dc6 pm6 cd6 ct6 : Value}
    (a6 : PySem.W.nsIn K mainGlobals "_law_cell" = some (some (.ref f6))) (l6 : K.lookup f6 = some ⟨oc6, od6, .func (PySem.W.fnOf "_law_cell" "_law_cell" (defArgs s__law_cell) (defBody s__law_cell) (defScope s__law_cell) .none kV6 dc6 pm6 an6 cd6 ct6), sl6⟩) (c6 : PySem.W.codeIn K cd6 "_law_cell" = true) (k6 : PySem.W.keepIn K (.ref f6) = true)
    {f7 : Addr} {od7 an7 : Option Addr} {sl7 : Array (Option Value)} {oc7 kV7 dc7 pm7 cd7 ct7 : Value}
    (a7 : PySem.W.nsIn K mainGlobals "_law_sides" = some (some (.ref f7))) (l7 : K.lookup f7 = some ⟨oc7, od7, .func (PySem.W.fnOf "_law_sides" "_law_sides" (defArgs s__law_sides) (defBody s__law_sides) (defScope s__law_sides) .none kV7 dc7 pm7 an7 cd7 ct7), sl7⟩) (c7 : PySem.W.codeIn K cd7 "_law_sides" = true) (k7 : PySem.W.keepIn K (.ref f7) = true)
    {f8 : Addr} {od8 an8 : Option Addr} {sl8 : Array (Option Value)} {oc8 kV8 dc8 pm8 cd8 ct8 : Value}
    (a8 : PySem.W.nsIn K mainGlobals "_law_due" = some (some (.ref f8))) (l8 : K.lookup f8 = some ⟨oc8, od8, .func (PySem.W.fnOf "_law_due" "_law_due" (defArgs s__law_due) (defBody s__law_due) (defScope s__law_due) .none kV8 dc8 pm8 an8 cd8 ct8), sl8⟩) (c8 : PySem.W.codeIn K cd8 "_law_due" = true) (k8 : PySem.W.keepIn K (.ref f8) = true)
    {f9 : Addr} {od9 an9 : Option Addr} {sl9 : Array (Option Value)} {oc9 kV9 dc9 pm9 cd9 ct9 : Value}
    (a9 : PySem.W.nsIn K mainGlobals "law" = some (some (.ref f9))) (l9 : K.lookup f9 = some ⟨oc9, od9, .func (PySem.W.fnOf "law" "law" (defArgs s_law) (defBody s_law) (defScope s_law) .none kV9 dc9 pm9 an9 cd9 ct9), sl9⟩) (c9 : PySem.W.codeIn K cd9 "law" = true) (k9 : PySem.W.keepIn K (.ref f9) = true)
    (z_range : PySem.W.nsIn K mainGlobals "range" = some none)
    (z_len : PySem.W.nsIn K mainGlobals "len" = some none)
    (z_min : PySem.W.nsIn K mainGlobals "min" = some none)
    (z_max : PySem.W.nsIn K mainGlobals "max" = some none)
    (z_bool : PySem.W.nsIn K mainGlobals "bool" = some none)
    (z_abs : PySem.W.nsIn K mainGlobals "abs" = some none)
    (z_isinstance : PySem.W.nsIn K mainGlobals "isinstance" = some none) :
    ∃ fd : FuncData, (∀ (s : Shared) (v : Value), BindsTo s fd ⟨[v], []⟩ [("_law_script", v)]) ∧ ∀ base : Heap, K.In base → base.Ns mainGlobals mg → FnOk l.prog w K mg base CX0 4 fa fd ["_law_script"] (spLaw K) := by
  have e := hfa.symm.trans (PySem.W.mg_of X G a9)
  cases e
  have T : Txt l.prog w K mg := { nrange := PySem.W.mg_none_of X G z_range, nlen := PySem.W.mg_none_of X G z_len, nmin := PySem.W.mg_none_of X G z_min, nmax := PySem.W.mg_none_of X G z_max, nbool := PySem.W.mg_none_of X G z_bool, nabs := PySem.W.mg_none_of X G z_abs, nisinstance := PySem.W.mg_none_of X G z_isinstance }
  have F0 := fun_mk (st := s_across) l0 c0 k0
  have b0 := F0.binds (ps := ["start", "one", "other"]) fun _ _ _ _ _ _ us hl => match us, hl with | [_, _, _], _ => rfl
  have d_across : Df K mg "across" s_across ["start", "one", "other"] := ⟨f0, _, F0, PySem.W.mg_of X G a0, b0⟩
  have F1 := fun_mk (st := s_do_part) l1 c1 k1
  have b1 := F1.binds (ps := ["side", "one", "other"]) fun _ _ _ _ _ _ us hl => match us, hl with | [_, _, _], _ => rfl
  have d_do_part : Df K mg "do_part" s_do_part ["side", "one", "other"] := ⟨f1, _, F1, PySem.W.mg_of X G a1, b1⟩
  have F2 := fun_mk (st := s_do_cross) l2 c2 k2
  have b2 := F2.binds (ps := ["one", "other"]) fun _ _ _ _ _ _ us hl => match us, hl with | [_, _], _ => rfl
  have d_do_cross : Df K mg "do_cross" s_do_cross ["one", "other"] := ⟨f2, _, F2, PySem.W.mg_of X G a2, b2⟩
  have F3 := fun_mk (st := s__law_cell_at) l3 c3 k3
  have b3 := F3.binds (ps := ["_law_script", "_law_k"]) fun _ _ _ _ _ _ us hl => match us, hl with | [_, _], _ => rfl
  have d__law_cell_at : Df K mg "_law_cell_at" s__law_cell_at ["_law_script", "_law_k"] := ⟨f3, _, F3, PySem.W.mg_of X G a3, b3⟩
  have F4 := fun_mk (st := s__law_take) l4 c4 k4
  have b4 := F4.binds (ps := ["_law_pen", "_law_base"]) fun _ _ _ _ _ _ us hl => match us, hl with | [_, _], _ => rfl
  have d__law_take : Df K mg "_law_take" s__law_take ["_law_pen", "_law_base"] := ⟨f4, _, F4, PySem.W.mg_of X G a4, b4⟩
  have F5 := fun_mk (st := s__law_far) l5 c5 k5
  have b5 := F5.binds (ps := ["_law_pen"]) fun _ _ _ _ _ _ us hl => match us, hl with | [_], _ => rfl
  have d__law_far : Df K mg "_law_far" s__law_far ["_law_pen"] := ⟨f5, _, F5, PySem.W.mg_of X G a5, b5⟩
  have F6 := fun_mk (st := s__law_cell) l6 c6 k6
  have b6 := F6.binds (ps := ["_law_pen", "_law_size", "_law_far_here"]) fun _ _ _ _ _ _ us hl => match us, hl with | [_, _, _], _ => rfl
  have d__law_cell : Df K mg "_law_cell" s__law_cell ["_law_pen", "_law_size", "_law_far_here"] := ⟨f6, _, F6, PySem.W.mg_of X G a6, b6⟩
  have F7 := fun_mk (st := s__law_sides) l7 c7 k7
  have b7 := F7.binds (ps := ["_law_pen"]) fun _ _ _ _ _ _ us hl => match us, hl with | [_], _ => rfl
  have d__law_sides : Df K mg "_law_sides" s__law_sides ["_law_pen"] := ⟨f7, _, F7, PySem.W.mg_of X G a7, b7⟩
  have F8 := fun_mk (st := s__law_due) l8 c8 k8
  have b8 := F8.binds (ps := ["_law_one", "_law_other"]) fun _ _ _ _ _ _ us hl => match us, hl with | [_, _], _ => rfl
  have d__law_due : Df K mg "_law_due" s__law_due ["_law_one", "_law_other"] := ⟨f8, _, F8, PySem.W.mg_of X G a8, b8⟩
  have F9 := fun_mk (st := s_law) l9 c9 k9
  have b9 := F9.binds (ps := ["_law_script"]) fun _ _ _ _ _ _ us hl => match us, hl with | [_], _ => rfl
  refine ⟨PySem.W.fnOf "law" "law" (defArgs s_law) (defBody s_law) (defScope s_law) .none kV9 dc9 pm9 an9 cd9 ct9, fun s v => .of_eq rfl, fun base _ _ => ?_⟩
  have g_across := d_across.fn (P := l.prog) (w := w) (base := base) (ok_across d_across)
  have g_do_part := d_do_part.fn (P := l.prog) (w := w) (base := base) (ok_do_part g_across d_do_part)
  have g_do_cross := d_do_cross.fn (P := l.prog) (w := w) (base := base) (ok_do_cross g_do_part d_do_cross)
  have g__law_cell_at := d__law_cell_at.fn (P := l.prog) (w := w) (base := base) (ok_law_cell_at T d__law_cell_at)
  have g__law_take := d__law_take.fn (P := l.prog) (w := w) (base := base) (tk_of (ok_law_take T d__law_take))
  have g__law_far := d__law_far.fn (P := l.prog) (w := w) (base := base) (ok_law_far g__law_take d__law_far)
  have g__law_cell := d__law_cell.fn (P := l.prog) (w := w) (base := base) (ok_law_cell g__law_take d__law_cell)
  have g__law_sides := d__law_sides.fn (P := l.prog) (w := w) (base := base) (ok_law_sides g__law_take g__law_far g__law_cell d__law_sides)
  have g__law_due := d__law_due.fn (P := l.prog) (w := w) (base := base) (ok_law_due d__law_due)
  exact ok_law T g_do_cross g__law_cell_at g__law_sides g__law_due ⟨_, _, F9, PySem.W.mg_of X G a9, b9⟩
theorem walk {l : PySem.W.OpenLaw} {q : Program} {loose : List Str} {XP : (Str → Option Value) → Heap → Prop} {YP : World → Heap → Prop} {d : DefRec} {K : Params → PySem.W.Frag} (hn : l.most = some 63) (hdf : d.params.defaults = [])
    (hY : ∀ (w : World) (h : Heap), YP w h → (K w.params).In h)
    (F : ∀ (w : World) (mg : Str → Option Value) (fa : Addr) (h : Heap), (K w.params).In h → h.Ns mainGlobals mg → mg d.name = some (.ref fa) →
      ∃ fd : FuncData, (∀ (s : Shared) (u : Value), BindsTo s fd ⟨[u], []⟩ [("_law_script", u)]) ∧ ∀ base : Heap, (K w.params).In base → base.Ns mainGlobals mg → FnOk l.prog w (K w.params) mg base CX0 4 fa fd ["_law_script"] (spLaw (K w.params))) :
    PySem.W.WalkO q loose XP YP l.row.toRowW d [] (fun f vs => PySem.call f vs) :=
  L2.walk_of (n := 63) (k := 4) (x := "_law_script") (CX := fun _ => CX0) (sp := fun w => spLaw (K w.params)) hn (by decide) hdf ⟨rfl, by decide, by decide⟩ hY F (fun _ _ a ns hl _ hS => ⟨a, ns, rfl, hS, hl, fun _ => rfl⟩) fun _ _ _ _ _ z => z
end RR
open PySem PySem.W PyProof.Rows
set_option maxRecDepth 100000 in
set_option maxHeartbeats 0 in
theorem PySem.Challenge.cw_rimsteps_k64_sides_that_cross_holds : PySem.Challenge.rw_rimsteps_k64_sides_that_cross.Holds := by
  w_on; o_law; k_head; (case hw => w_witness2)
  k_fill
  refine RR.walk (l := PySem.Challenge.rw_rimsteps_k64_sides_that_cross) rfl rfl (fun w h Y => PySem.W.kIn_of Y) ?F
  case F =>
    intro w mg fa h KX G hmg
    refine' RR.all_mk KX G hmg ?a0 ?l0 ?c0 ?k0 ?a1 ?l1 ?c1 ?k1 ?a2 ?l2 ?c2 ?k2 ?a3 ?l3 ?c3 ?k3 ?a4 ?l4 ?c4 ?k4 ?a5 ?l5 ?c5 ?k5 ?a6 ?l6 ?c6 ?k6 ?a7 ?l7 ?c7 ?k7 ?a8 ?l8 ?c8 ?k8 ?a9 ?l9 ?c9 ?k9 ?z_range ?z_len ?z_min ?z_max ?z_bool ?z_abs ?z_isinstance
    (case a0 => k_is)
    (case l0 => k_is)
    (case c0 => k_is)
    (case k0 => k_is)
    (case a1 => k_is)
    (case l1 => k_is)
    (case c1 => k_is)
    (case k1 => k_is)
    (case a2 => k_is)
    (case l2 => k_is)
    (case c2 => k_is)
    (case k2 => k_is)
    (case a3 => k_is)
    (case l3 => k_is)
    (case c3 => k_is)
    (case k3 => k_is)
    (case a4 => k_is)
    (case l4 => k_is)
    (case c4 => k_is)
    (case k4 => k_is)
    (case a5 => k_is)
    (case l5 => k_is)
    (case c5 => k_is)
    (case k5 => k_is)
    (case a6 => k_is)
    (case l6 => k_is)
    (case c6 => k_is)
    (case k6 => k_is)
    (case a7 => k_is)
    (case l7 => k_is)
    (case c7 => k_is)
    (case k7 => k_is)
    (case a8 => k_is)
    (case l8 => k_is)
    (case c8 => k_is)
    (case k8 => k_is)
    (case a9 => k_is)
    (case l9 => k_is)
    (case c9 => k_is)
    (case k9 => k_is)
    (case z_range => k_is)
    (case z_len => k_is)
    (case z_min => k_is)
    (case z_max => k_is)
    (case z_bool => k_is)
    (case z_abs => k_is)
    (case z_isinstance => k_is)

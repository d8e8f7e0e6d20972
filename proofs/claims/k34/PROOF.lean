import PyProof.Rows.All
import Wide.All
import OpenK.AllK
import Wide.FinOn
import Lean
import PyProof.EqAt
import PyProof.EqKinds
import PyProof.TupleCall
import PyProof.NeKinds
import KE.KTryMore
import PyProof.Rows.CatchOwn
import PyProof.ExcAttrAll.ValueError
import PySem.Challenge.RW_padwright_k34_whole_just_those
set_option Elab.async false
set_option linter.all false
set_option maxRecDepth 100000
/-! THE HAND LAYER, for ints, bools, texts, own classes, LISTS and tuples (index, slices, in, append, pop ..), calls, loops. Paste it whole ahead of your own text; what your proof does not reach may be deleted. -/
namespace L2
open PySem PySem.Spec PyProof.Rows

/-- a key: an int or a str -/
abbrev Key := Sum Int Str
def keyIs : Key → Value → Bool
  | .inl k, v => Value.isInt k v
  | .inr x, v => Value.isStrOf x v
def keyH (w : World) : Key → Int
  | .inl k => hashInt k
  | .inr x => hashStr w x
theorem keyIs_shape : ∀ {k : Key} {v : Value}, keyIs k v = true → (∃ i t, k = Sum.inl i ∧ v = Value.int i t) ∨ (∃ x t, k = Sum.inr x ∧ v = Value.str x t)
  | .inl i, v, h => by
    obtain ⟨t, e⟩ := Value.isInt_shape (k := i) (v := v) h
    exact .inl ⟨i, t, rfl, e⟩
  | .inr x, v, h => by
    obtain ⟨t, e⟩ := Value.isStrOf_shape (x := x) (v := v) h
    exact .inr ⟨x, t, rfl, e⟩
theorem keyIs_int (i : Int) (t : Tok) : keyIs (.inl i) (.int i t) = true := by simp [keyIs, Value.isInt]
theorem keyIs_str (x : Str) (t : Tok) : keyIs (.inr x) (.str x t) = true := by simp [keyIs, Value.isStrOf]
theorem key_ll (a b : Int) : decide ((Sum.inl a : Key) = Sum.inl b) = (a == b) := by
  by_cases e : a = b
  · subst e; simp
  · have h : ¬ (Sum.inl a : Key) = Sum.inl b := fun q => e (Sum.inl.inj q)
    rw [decide_eq_false h]
    exact (beq_eq_false_iff_ne.mpr e).symm
theorem key_rr (a b : Str) : decide ((Sum.inr a : Key) = Sum.inr b) = decide (a = b) := by
  by_cases e : a = b
  · subst e; simp
  · have h : ¬ (Sum.inr a : Key) = Sum.inr b := fun q => e (Sum.inr.inj q)
    rw [decide_eq_false h, decide_eq_false e]
theorem key_lr (a : Int) (b : Str) : decide ((Sum.inl a : Key) = Sum.inr b) = false := decide_eq_false (fun q => nomatch q)
theorem key_rl (a : Str) (b : Int) : decide ((Sum.inr a : Key) = Sum.inl b) = false := decide_eq_false (fun q => nomatch q)

def mixKind (prog : Program) (w : World) : PySem.KeyKind prog w Key where
  is := keyIs
  hash := keyH w
  inj := fun v a b ha hb => by
    rcases keyIs_shape ha with ⟨i, t, rfl, rfl⟩ | ⟨x, t, rfl, rfl⟩
    · rcases keyIs_shape hb with ⟨j, u, rfl, e⟩ | ⟨y, u, rfl, e⟩
      · injection e with e1 _; rw [e1]
      · exact nomatch e
    · rcases keyIs_shape hb with ⟨j, u, rfl, e⟩ | ⟨y, u, rfl, e⟩
      · exact nomatch e
      · injection e with e1 _; rw [e1]
  byValue := fun k v h => by
    rcases keyIs_shape h with ⟨i, t, rfl, rfl⟩ | ⟨x, t, rfl, rfl⟩ <;> rfl
  pyHash := fun hv h => by
    rcases keyIs_shape hv with ⟨i, t, rfl, rfl⟩ | ⟨x, t, rfl, rfl⟩
    · exact wpAny_pyHash_int h
    · exact wpAny_pyHash_str h
  eqBool := fun hu hv h => by
    rcases keyIs_shape hu with ⟨i, t, rfl, rfl⟩ | ⟨x, t, rfl, rfl⟩
    · rcases keyIs_shape hv with ⟨j, u, rfl, rfl⟩ | ⟨y, u, rfl, rfl⟩
      · rw [key_ll] at h; exact wpAny_eqBool_int h
      · rw [key_lr] at h; exact SeqAt.EqAt.int_str i t y u _ _ _ _ h
    · rcases keyIs_shape hv with ⟨j, u, rfl, rfl⟩ | ⟨y, u, rfl, rfl⟩
      · rw [key_rl] at h; exact SeqAt.EqAt.str_int x t j u _ _ _ _ h
      · rw [key_rr] at h; exact wpAny_eqBool_str h
  «strs» := fun k x t v h => by
    rcases keyIs_shape h with ⟨i, u, rfl, e⟩ | ⟨y, u, rfl, e⟩
    · exact nomatch e
    · injection e with e1 _
      subst e1
      cases v <;> rfl

theorem mixKind_is (prog : Program) (w : World) (k : Key) (v : Value) : (mixKind prog w).is k v = keyIs k v := rfl
theorem mixKind_int (prog : Program) (w : World) (i : Int) (t : Tok) : (mixKind prog w).is (.inl i) (.int i t) = true := keyIs_int i t
theorem mixKind_str (prog : Program) (w : World) (x : Str) (t : Tok) : (mixKind prog w).is (.inr x) (.str x t) = true := keyIs_str x t
end L2

namespace L2
open PySem PySem.Spec PyProof.Rows

/-- a value, without the heap -/
inductive V where
  | non | bl (b : Bool) | int (i : Int) | str (x : Str) | byt (b : Array UInt8) | flt (b : UInt64) | ref (a : Addr) | ty (n : String)
  deriving DecidableEq

def RelV : V → Value → Prop
  | .non, u => u = Value.none
  | .bl b, u => u = Value.bool b
  | .int i, u => ∃ t, u = Value.int i t
  | .str x, u => ∃ t, u = Value.str x t
  | .byt b, u => ∃ t, u = Value.bytes b t
  | .flt b, u => ∃ t, u = Value.float b t
  | .ref a, u => u = Value.ref a
  | .ty n, u => u = Value.type n

abbrev Vals : List V → List Value → Prop := Paired RelV
theorem Vals.length {xs : List V} {us : List Value} (r : Vals xs us) : xs.length = us.length := Paired.length r
theorem Vals.get : ∀ {xs : List V} {us : List Value} {i : Nat} {x : V}, Vals xs us → xs[i]? = some x → ∃ u, us[i]? = some u ∧ RelV x u
  | _, _, _, _, .nil, e => by simp at e
  | _, _, 0, _, .cons r _, e => by simp at e; subst e; exact ⟨_, rfl, r⟩
  | _, _, i + 1, x, .cons _ t, e => by
    obtain ⟨u, h1, h2⟩ := Vals.get (i := i) (x := x) t (by simpa using e)
    exact ⟨u, by simpa using h1, h2⟩
theorem Vals.set {x : V} {u : Value} (r : RelV x u) : ∀ {xs : List V} {us : List Value} (i : Nat), Vals xs us → Vals (xs.set i x) (us.set i u)
  | _, _, _, .nil => .nil
  | _, _, 0, .cons _ t => .cons r t
  | _, _, i + 1, .cons q t => .cons q (Vals.set r i t)
theorem Vals.append : ∀ {xs ys : List V} {us ws : List Value}, Vals xs us → Vals ys ws → Vals (xs ++ ys) (us ++ ws)
  | _, _, _, _, .nil, s => s
  | _, _, _, _, .cons r t, s => .cons r (Vals.append t s)
theorem Vals.take : ∀ {xs : List V} {us : List Value} (n : Nat), Vals xs us → Vals (xs.take n) (us.take n)
  | _, _, 0, _ => .nil
  | _, _, _ + 1, .nil => .nil
  | _, _, n + 1, .cons r t => .cons r (Vals.take n t)
theorem Vals.drop : ∀ {xs : List V} {us : List Value} (n : Nat), Vals xs us → Vals (xs.drop n) (us.drop n)
  | _, _, 0, r => r
  | _, _, _ + 1, .nil => .nil
  | _, _, n + 1, .cons _ t => Vals.drop n t
theorem Vals.none_of : ∀ {xs : List V} {us : List Value} {i : Nat}, Vals xs us → xs[i]? = none → us[i]? = none := fun {xs us i} r e => by
  have h1 := r.length
  have h2 : xs.length ≤ i := List.getElem?_eq_none_iff.mp e
  exact List.getElem?_eq_none_iff.mpr (by omega)

def RelO : Option V → Option Value → Prop
  | some v, some u => RelV v u
  | none, none => True
  | _, _ => False
def KV {κ : Type} : List (κ × V) → List (κ × Value) → Prop := Paired fun (p : κ × V) (q : κ × Value) => p.1 = q.1 ∧ RelV p.2 q.2

/-- a key of a dict (00_mix): an int or a text -/
def kV : Key → V
  | .inl i => .int i
  | .inr x => .str x

/-- what stands at a tracked address -/
inductive HO where
  /-- a list -/
  | lst (xs : List V)
  /-- a tuple (never changes) -/
  | tup (xs : List V)
  /-- a dict whose keys are ints and texts; one whose keys are tuples of ints and texts (the empty one is both) -/
  | dK (kvs : List (Key × V)) | dT (kvs : List (List Key × V))
  /-- a set of ints: its members, its size -/
  | set (S : Int → Bool) (n : Nat)
  /-- an instance of the class at C, its dict at dx, its attributes -/
  | ins (C dx : Addr) (fs : List (Str × V))
  /-- the dict of the instance at x -/
  | own (x : Addr)
  /-- the dict of an exception -/
  | xd (fs : List (Str × V))
  /-- a bound method, f of x -/
  | met (f x : Addr)
  /-- a range object lo, lo + 1, .. below hi -/
  | rng (lo hi : Int)
  /-- a thing that is known to the object (the script; a dict while a loop walks it): read, never written while it is so -/
  | frz (o : Obj) (u : HO)
  /-- a code object's table -/
  | tbl (ps : Array Value)
  /-- any other thing, by what is true of its one object (a def of one's own: SetO a S n := HO.ext fun h => ..) -/
  | ext (φ : Heap → Prop)

abbrev Hp := Addr → Option HO
def upd (H : Hp) (a : Addr) (o : HO) : Hp := fun b => if b = a then some o else H b
theorem upd_same {H : Hp} {a : Addr} {o : HO} : upd H a o a = some o := by unfold upd; rw [if_pos rfl]
theorem upd_ne {H : Hp} {a b : Addr} {o : HO} (h : b ≠ a) : upd H a o b = H b := by unfold upd; rw [if_neg h]
theorem upd_upd {H : Hp} {a : Addr} {o u : HO} : upd (upd H a o) a u = upd H a u := by
  funext b; unfold upd; split <;> rfl
/-- two objects of different content stand apart -/
theorem ne_of {H : Hp} {a b : Addr} {o u : HO} (h : H a = some o) (h' : H b = some u) (d : o ≠ u) : a ≠ b := by
  intro e; subst e; rw [h] at h'; exact d (Option.some.inj h')
theorem ne_of_none {H : Hp} {a b : Addr} {o : HO} (h : H a = some o) (h' : H b = none) : a ≠ b := by
  intro e; subst e; rw [h] at h'; cases h'

section
variable (P : Program) (w : World)
def ObjOk (H : Hp) (h : Heap) (a : Addr) : HO → Prop
  | .lst xs => xs.length ≤ sizeLine ∧ ∃ (its : List Value) (n : Nat), Vals xs its ∧ h.get? a = some { cls := .type "list", data := .seq its.toArray n }
  | .tup xs => xs.length ≤ sizeLine ∧ ∃ its : List Value, Vals xs its ∧ IsTup h a its.toArray
  | .dK kvs => kvs.length ≤ sizeLine ∧ (a == sysModules) = false ∧ ∃ vs, KV kvs vs ∧ h.DictOf (mixKind P w) a vs
  | .dT kvs => kvs.length ≤ sizeLine ∧ (a == sysModules) = false ∧ ∃ xs : List (List Key × Addr × Value),
      Paired (fun (p : List Key × V) (q : List Key × Addr × Value) => p.1 = q.1 ∧ H q.2.1 = some (.tup (p.1.map kV)) ∧ RelV p.2 q.2.2) kvs xs ∧
      ∃ o es ep, h.get? a = some o ∧ o.ExactDict ∧ o.data = .dict es ep ∧ es.toList = xs.map (entryOfKey (tupleKind (mixKind P w))) ∧ (xs.map (·.1)).Nodup
  | .set S n => h.SetOf (intKind P w) a S n
  | .ins C dx fs => H dx = some (.own a) ∧ fs.length ≤ 1000 ∧ dx ≠ a ∧ h.get? a = some (PySem.W.instObj C dx) ∧
      ∃ mA, h.Ns1 dx mA ∧ (∀ f, RelO (fs.lookup f) (mA f)) ∧ PySem.Within mA (fs.map (·.1))
  | .own _ => ∃ o, h.get? a = some o
  | .xd fs => ∃ mA, h.Ns1 a mA ∧ ∀ f, RelO (fs.lookup f) (mA f)
  | .rng lo hi => ∃ t u v, h.get? a = some { cls := .type "range", data := .fields #[.int lo t, .int hi u, .int 1 v] }
  | .frz o u => h.get? a = some o ∧ ObjOk H h a u
  | .tbl ps => h.get? a = some { cls := .none, data := .fields ps }
  | .met f x => h.get? a = some (PySem.W.methodObj (.ref f) (.ref x))
  | .ext φ => φ h ∧ (∃ o, h.get? a = some o) ∧ ∀ h1 h2 : Heap, φ h1 → (∀ o, h1.get? a = some o → h2.get? a = some o) → φ h2
/-- the abstract heap is held -/
def HOk (H : Hp) (h : Heap) : Prop := ∀ a o, H a = some o → ObjOk P w H h a o
end

section
variable {P : Program} {w : World} {H H' : Hp} {h h' : Heap} {a : Addr} {o : HO}
theorem ObjOk.lt (x : ObjOk P w H h a o) : a < h.objs.size := by
  cases o with
  | lst xs => obtain ⟨_, _, _, _, e⟩ := x; exact Heap.lt_size e
  | tup xs => obtain ⟨_, _, _, p⟩ := x; exact p.lt
  | dK kvs => obtain ⟨_, _, _, _, o, _, _, e, _⟩ := x; exact Heap.lt_size e
  | dT kvs => obtain ⟨_, _, _, _, o, _, _, e, _⟩ := x; exact Heap.lt_size e
  | set S n => obtain ⟨o, _, _, _, e, _⟩ := x; exact Heap.lt_size e
  | ins C dx fs => obtain ⟨_, _, _, e, _⟩ := x; exact Heap.lt_size e
  | own y => obtain ⟨_, e⟩ := x; exact Heap.lt_size e
  | xd fs => obtain ⟨_, ⟨_, _, _, e, _⟩, _⟩ := x; exact Heap.lt_size e
  | rng lo hi => obtain ⟨_, _, _, e⟩ := x; exact Heap.lt_size e
  | frz ob u => obtain ⟨e, _⟩ := x; exact Heap.lt_size e
  | tbl ps => exact Heap.lt_size (show h.get? a = some _ from x)
  | met f y => exact Heap.lt_size (show h.get? a = some _ from x)
  | ext φ => obtain ⟨_, ⟨_, e⟩, _⟩ := x; exact Heap.lt_size e
theorem Paired.mapP {α β : Type} {F G : α → β → Prop} : ∀ {l₁ : List α} {l₂ : List β}, Paired F l₁ l₂ → (∀ a b, F a b → G a b) → Paired G l₁ l₂
  | _, _, .nil, _ => .nil
  | _, _, .cons r t, f => .cons (f _ _ r) (Paired.mapP t f)
theorem Paired.imp' {α β : Type} {F G : α → β → Prop} (f : ∀ a b, F a b → G a b) {l₁ : List α} {l₂ : List β} (r : Paired F l₁ l₂) : Paired G l₁ l₂ := Paired.mapP r f
/-- what an object's description leans on: its own object, its own dict, the tuples -/
theorem ObjOk.stay (x : ObjOk P w H h a o) (k : ∀ b u, (b = a ∨ H b = some (.own a)) → h.get? b = some u → h'.get? b = some u)
    (ho : ∀ b, H b = some (.own a) → H' b = some (.own a)) (ht : ∀ b xs, H b = some (.tup xs) → H' b = some (.tup xs)) : ObjOk P w H' h' a o := by
  induction o with
  | lst xs => obtain ⟨z, its, n, r, e⟩ := x; exact ⟨z, its, n, r, k _ _ (.inl rfl) e⟩
  | tup xs => obtain ⟨z, its, r, ob, e, c⟩ := x; exact ⟨z, its, r, ob, k _ _ (.inl rfl) e, c⟩
  | dK kvs => obtain ⟨z, y, vs, r, ob, es, ep, e, c⟩ := x; exact ⟨z, y, vs, r, ob, es, ep, k _ _ (.inl rfl) e, c⟩
  | dT kvs =>
    obtain ⟨z, y, xs, r, ob, es, ep, e, c⟩ := x
    exact ⟨z, y, xs, Paired.mapP r fun p q z => ⟨z.1, ht _ _ z.2.1, z.2.2⟩, ob, es, ep, k _ _ (.inl rfl) e, c⟩
  | set S n => obtain ⟨ob, es, ep, t, e, c⟩ := x; exact ⟨ob, es, ep, t, k _ _ (.inl rfl) e, c⟩
  | ins C dx fs =>
    obtain ⟨d, z, ne, e, mA, ⟨od, es, ep, e2, c⟩, r⟩ := x
    exact ⟨ho _ d, z, ne, k _ _ (.inl rfl) e, mA, ⟨od, es, ep, k _ _ (.inr d) e2, c⟩, r⟩
  | own y => obtain ⟨ob, e⟩ := x; exact ⟨ob, k _ _ (.inl rfl) e⟩
  | xd fs => obtain ⟨mA, ⟨od, es, ep, e, c⟩, r⟩ := x; exact ⟨mA, ⟨od, es, ep, k _ _ (.inl rfl) e, c⟩, r⟩
  | rng lo hi => obtain ⟨t, u, v, e⟩ := x; exact ⟨t, u, v, k _ _ (.inl rfl) e⟩
  | frz ob u ih => obtain ⟨e, q⟩ := x; exact ⟨k _ _ (.inl rfl) e, ih q⟩
  | tbl ps =>
    have e : h.get? a = some { cls := .none, data := .fields ps } := x
    show h'.get? a = some { cls := .none, data := .fields ps }
    exact k a _ (.inl rfl) e
  | met f y =>
    have e : h.get? a = some (PySem.W.methodObj (.ref f) (.ref y)) := x
    show h'.get? a = some (PySem.W.methodObj (.ref f) (.ref y))
    exact k a _ (.inl rfl) e
  | ext φ => obtain ⟨p, ⟨o, e⟩, st⟩ := x; exact ⟨st _ _ p fun o q => k _ _ (.inl rfl) q, ⟨o, k _ _ (.inl rfl) e⟩, st⟩
theorem HOk.lt (x : HOk P w H h) (e : H a = some o) : a < h.objs.size := (x a o e).lt
theorem HOk.fresh (x : HOk P w H h) (e : h.objs.size ≤ a) : H a = none := by
  cases q : H a with
  | none => rfl
  | some u => exact absurd (Nat.lt_of_lt_of_le (x.lt q) e) (Nat.lt_irrefl _)
/-- every object of the heap is kept -/
theorem HOk.kept (x : HOk P w H h) (k : ∀ b u, h.get? b = some u → h'.get? b = some u) : HOk P w H h' := fun a o e =>
  (x a o e).stay (fun b u _ q => k b u q) (fun _ q => q) fun _ _ q => q
/-- a new object is laid and tracked -/
theorem HOk.laid (x : HOk P w H h) (k : ∀ b u, h.get? b = some u → h'.get? b = some u) (hp : h.objs.size ≤ a) (new : ObjOk P w (upd H a o) h' a o) : HOk P w (upd H a o) h' := fun b u e => by
  have hn := x.fresh hp
  by_cases hb : b = a
  · subst hb; rw [upd_same] at e; cases e; exact new
  · rw [upd_ne hb] at e
    exact (x b u e).stay (fun c v _ q => k c v q) (fun c q => by rw [upd_ne (ne_of_none q hn)]; exact q) fun c xs q => by rw [upd_ne (ne_of_none q hn)]; exact q
end

/-- what may be read as u: it is u, or a known u -/
def Rd (H : Hp) (a : Addr) (u : HO) : Prop := H a = some u ∨ ∃ o, H a = some (.frz o u)
theorem Rd.of {H : Hp} {a : Addr} {u : HO} (h : H a = some u) : Rd H a u := .inl h
theorem Rd.ok {P : Program} {w : World} {H : Hp} {h : Heap} {a : Addr} {u : HO} (r : Rd H a u) (x : HOk P w H h) : ObjOk P w H h a u := by
  rcases r with r | ⟨o, r⟩
  · exact x a u r
  · obtain ⟨_, q⟩ := x a _ r
    exact q
/-- what may be written -/
def Mut : Option HO → Prop
  | some (.lst _) => True
  | some (.dK _) => True
  | some (.dT _) => True
  | some (.set _ _) => True
  | some (.ins _ _ _) => True
  | some (.ext _) => True
  | _ => False
section
variable {P : Program} {w : World} {H : Hp} {h h' : Heap} {x e : Addr} {o' : HO}
/-- the object at e is changed: x itself, or the dict of the instance x -/
theorem HOk.write (ok : HOk P w H h) (mu : Mut (H x)) (he : e = x ∨ H e = some (.own x)) (k : ∀ b u, b ≠ e → h.get? b = some u → h'.get? b = some u) (heo : ∃ u, h'.get? e = some u)
    (new : ObjOk P w (upd H x o') h' x o') : HOk P w (upd H x o') h' := fun b u q => by
  have nown : ∀ c y, H c = some (.own y) → c ≠ x := fun c y r z => by subst z; rw [r] at mu; exact mu
  have ntup : ∀ c xs, H c = some (.tup xs) → c ≠ x := fun c xs r z => by subst z; rw [r] at mu; exact mu
  by_cases hb : b = x
  · subst hb; rw [upd_same] at q; cases q; exact new
  · rw [upd_ne hb] at q
    by_cases hbe : b = e
    · have q' : H b = some (.own x) := by
        rcases he with z | z
        · exact absurd (hbe.trans z) hb
        · rw [hbe]; exact z
      rw [q] at q'; cases q'
      obtain ⟨v, hv⟩ := heo
      exact ⟨v, by rw [hbe]; exact hv⟩
    · refine (ok b u q).stay (fun c v hc r => k c v ?_ r) (fun c r => by rw [upd_ne (nown c b r)]; exact r) fun c xs r => by rw [upd_ne (ntup c xs r)]; exact r
      rcases hc with rfl | hc
      · exact hbe
      · rintro rfl
        rcases he with z | z
        · exact nown c b hc z
        · rw [hc] at z; cases z; exact hb rfl
end

/-! ### kept unless tracked; of the frames at fs (the callers') the slots may change (an exception that passes writes there); of the records at ex (iterators) nothing is said -/
structure Un (fs ex : List Addr) (H H' : Hp) (h h' : Heap) : Prop where
  keep : ∀ b o, h.get? b = some o → H b = none → b ∉ fs → b ∉ ex → h'.get? b = some o
  slot : ∀ b o, h.get? b = some o → H b = none → b ∈ fs → b ∉ ex → ∃ sl, h'.get? b = some { o with slots := sl }
  free : ∀ b o, h.get? b = some o → H b = none → b ∉ ex → H' b = none
  there : ∀ b o, h.get? b = some o → b ∉ ex → ∃ o', h'.get? b = some o'
  tups : ∀ b xs, H b = some (.tup xs) → H' b = some (.tup xs)
  frzs : ∀ b o u, H b = some (.frz o u) → H' b = some (.frz o u)
  tbls : ∀ b ps, H b = some (.tbl ps) → ∃ more, H' b = some (.tbl (ps ++ more))
section
variable {fs fs' ex ex' : List Addr} {H H1 H2 : Hp} {h h1 h2 h' : Heap} {a x e : Addr} {o : HO}
theorem Un.any (u : Un fs ex H H1 h h1) {b : Addr} {ob : Obj} (q : h.get? b = some ob) (n : H b = none) (hx : b ∉ ex) : ∃ sl, h1.get? b = some { ob with slots := sl } := by
  by_cases hb : b ∈ fs
  · exact u.slot b ob q n hb hx
  · exact ⟨ob.slots, u.keep b ob q n hb hx⟩
theorem Un.trans (a : Un fs ex H H1 h h1) (b : Un fs ex H1 H2 h1 h2) : Un fs ex H H2 h h2 where
  keep := fun c ob q n hc hx => b.keep c ob (a.keep c ob q n hc hx) (a.free c ob q n hx) hc hx
  slot := fun c ob q n hc hx => by
    obtain ⟨sl, e1⟩ := a.slot c ob q n hc hx
    obtain ⟨sl', e2⟩ := b.slot c _ e1 (a.free c ob q n hx) hc hx
    exact ⟨sl', e2⟩
  free := fun c ob q n hx => by
    obtain ⟨o', e1⟩ := a.there c ob q hx
    exact b.free c o' e1 (a.free c ob q n hx) hx
  there := fun c ob q hx => by
    obtain ⟨o', e1⟩ := a.there c ob q hx
    exact b.there c o' e1 hx
  tups := fun c xs q => b.tups c xs (a.tups c xs q)
  frzs := fun c ob xs q => b.frzs c ob xs (a.frzs c ob xs q)
  tbls := fun c ps q => by
    obtain ⟨m1, e1⟩ := a.tbls c ps q
    obtain ⟨m2, e2⟩ := b.tbls c _ e1
    exact ⟨m1 ++ m2, by rw [e2, Array.append_assoc]⟩
theorem Un.kept (k : ∀ b u, h.get? b = some u → h'.get? b = some u) : Un fs ex H H h h' :=
  ⟨fun b ob q _ _ _ => k b ob q, fun b ob q _ _ _ => ⟨ob.slots, k b ob q⟩, fun _ _ _ n _ => n, fun b ob q _ => ⟨ob, k b ob q⟩, fun _ _ q => q, fun _ _ _ q => q, fun _ ps q => ⟨#[], by rw [q]; simp⟩⟩
theorem Un.refl : Un fs ex H H h h := Un.kept fun _ _ q => q
theorem Un.laid (k : ∀ b u, h.get? b = some u → h'.get? b = some u) (hp : h.objs.size ≤ a) (hn : H a = none) : Un fs ex H (upd H a o) h h' where
  keep := fun b u q _ _ _ => k b u q
  slot := fun b u q _ _ _ => ⟨u.slots, k b u q⟩
  free := fun b u q n _ => by rw [upd_ne (Nat.ne_of_lt (Nat.lt_of_lt_of_le (Heap.lt_size q) hp))]; exact n
  there := fun b u q _ => ⟨u, k b u q⟩
  tups := fun b xs q => by rw [upd_ne (ne_of_none q hn)]; exact q
  frzs := fun b u xs q => by rw [upd_ne (ne_of_none q hn)]; exact q
  tbls := fun b ps q => ⟨#[], by rw [upd_ne (ne_of_none q hn), q]; simp⟩
theorem Un.write (mu : Mut (H x)) (he : e = x ∨ H e = some (.own x)) (k : ∀ b u, b ≠ e → h.get? b = some u → h'.get? b = some u) (heo : ∃ u, h'.get? e = some u) : Un fs ex H (upd H x o) h h' := by
  have hx : ∀ b, H b = none → b ≠ x := fun b n z => by subst z; rw [n] at mu; exact mu
  have hb : ∀ b, H b = none → b ≠ e := fun b n z => by
    subst z
    rcases he with r | r
    · exact hx b n r
    · rw [n] at r; cases r
  have hm : ∀ b u, H b = some u → ¬ Mut (some u) → b ≠ x := fun b u q nm z => by subst z; rw [q] at mu; exact nm mu
  refine ⟨fun b u q n _ _ => k b u (hb b n) q, fun b u q n _ _ => ⟨u.slots, k b u (hb b n) q⟩, fun b u q n _ => by rw [upd_ne (hx b n)]; exact n, fun b u q _ => ?_,
    fun b xs q => by rw [upd_ne (hm b _ q fun z => z)]; exact q, fun b u xs q => by rw [upd_ne (hm b _ q fun z => z)]; exact q, fun b ps q => ⟨#[], by rw [upd_ne (hm b _ q fun z => z), q]; simp⟩⟩
  by_cases hbe : b = e
  · subst hbe; exact heo
  · exact ⟨u, k b u hbe q⟩
theorem Un.mono (u : Un fs ex H H1 h h1) (hs : ∀ b ∈ fs, b ∈ fs') (hx : ∀ b ∈ ex, b ∈ ex') : Un fs' ex' H H1 h h1 :=
  ⟨fun b ob q n hb he => u.keep b ob q n (fun z => hb (hs b z)) fun z => he (hx b z), fun _ _ q n _ he => u.any q n fun z => he (hx _ z), fun b ob q n he => u.free b ob q n fun z => he (hx b z), fun b ob q he => u.there b ob q fun z => he (hx b z), u.tups, u.frzs, u.tbls⟩
end

/-! ### the heap without what is tracked -/
def trk (h : Heap) (H : Hp) : List Addr := (List.range h.objs.size).filter fun a => (H a).isSome
def hidT (h : Heap) (H : Hp) : Heap := PySem.W.hideAll h (trk h H)
theorem hidT_size (h : Heap) (H : Hp) : (hidT h H).objs.size = h.objs.size := PySem.W.hideAll_size _ _
theorem hidT_get {h : Heap} {H : Hp} {b : Addr} {o : Obj} (e : h.get? b = some o) (n : H b = none) : (hidT h H).get? b = some o :=
  PySem.W.hideAll_get _ e fun hm => by
    have q : (H b).isSome = true := (List.mem_filter.mp hm).2
    rw [n] at q; simp at q
theorem of_hidT {h : Heap} {H : Hp} {b : Addr} {o : Obj} (e : (hidT h H).get? b = some o) : h.get? b = some o ∧ H b = none := by
  have e' : h.get? b = some o := PySem.W.of_hideAll (trk h H) e
  refine ⟨e', ?_⟩
  cases q : H b with
  | none => rfl
  | some x =>
    have hm : b ∈ trk h H := List.mem_filter.mpr ⟨List.mem_range.mpr (Heap.lt_size e'), by simp [q]⟩
    have z : (hidT h H).get? b = none := PySem.W.hideAll_none (trk h H) hm
    rw [z] at e; cases e

/-! ### OpenK's ledger, filled with every new object but one -/
def allNews (g h : Heap) (L : Addr) : List (Addr × Obj) := (List.range h.objs.size).filterMap fun a => if a = L ∨ (g.get? a).isSome = true then none else (h.get? a).map fun o => (a, o)
theorem mem_allNews {g h : Heap} {L a : Addr} {o : Obj} (h1 : a ≠ L) (h2 : g.get? a = none) (h3 : h.get? a = some o) : (a, o) ∈ allNews g h L :=
  List.mem_filterMap.mpr ⟨a, List.mem_range.mpr (Heap.lt_size h3), by simp [h1, h2, h3]⟩
theorem of_mem_allNews {g h : Heap} {L : Addr} {p : Addr × Obj} (hp : p ∈ allNews g h L) : p.1 ≠ L ∧ g.get? p.1 = none ∧ h.get? p.1 = some p.2 := by
  obtain ⟨b, _, e⟩ := List.mem_filterMap.mp hp
  split at e
  · cases e
  · rename_i hn
    cases q : h.get? b with
    | none => rw [q] at e; simp at e
    | some u =>
      rw [q] at e
      simp only [Option.map_some, Option.some.injEq] at e
      subst e
      refine ⟨fun z => hn (.inl z), ?_, q⟩
      show g.get? b = none
      cases r : g.get? b with
      | none => rfl
      | some v => exact (hn (.inr (by simp [r]))).elim
def rest (g h : Heap) (L d : Addr) : List (Addr × Obj) := (allNews g h L).filter fun p => decide (p.1 ≠ d)
theorem rest_ne {g h : Heap} {L d : Addr} : ∀ p ∈ rest g h L d, p.1 ≠ d := fun p hp => of_decide_eq_true (List.mem_filter.mp hp).2
theorem mem_rest {g h : Heap} {L d a : Addr} {o : Obj} (h1 : a ≠ L) (h2 : g.get? a = none) (h3 : h.get? a = some o) (h4 : a ≠ d) : (a, o) ∈ rest g h L d :=
  List.mem_filter.mpr ⟨mem_allNews h1 h2 h3, decide_eq_true h4⟩
theorem news_all {g h : Heap} {L : Addr} : News g L h (allNews g h L) := fun p hp => let ⟨a, b, c⟩ := of_mem_allNews hp; ⟨c, a, b⟩
theorem news_at {g h : Heap} {L d : Addr} {o : Obj} (h1 : d ≠ L) (h2 : g.get? d = none) (h3 : h.get? d = some o) : News g L h ((d, o) :: rest g h L d) := fun p hp => by
  rcases List.mem_cons.mp hp with rfl | hp
  · exact ⟨h3, h1, h2⟩
  · exact news_all p (List.mem_filter.mp hp).1
/-- behind a rule that changed d alone: all else but the frame is kept -/
theorem kept_of_news {g h h' : Heap} {L d : Addr} {m : Str → Option Value} (k : ∀ b o, g.get? b = some o → h.get? b = some o) (F : Fr g L h' m) (N : News g L h' (rest g h L d)) :
    ∀ b o, b ≠ L → b ≠ d → h.get? b = some o → h'.get? b = some o := fun b o h1 h2 e => by
  cases q : g.get? b with
  | some u =>
    have := k b u q
    rw [e] at this; cases this
    exact F.keep b _ q
  | none => exact (N (b, o) (mem_rest h1 q e h2)).1
end L2

namespace L2
open PySem PySem.Spec PyProof.Rows

/-- the module's facts, over the base: the heap at the law's entry without what is tracked there -/
structure Mod (K : PySem.W.Frag) (mg : Str → Option Value) (base : Heap) : Prop where
  kin : K.In base
  glob : base.Ns mainGlobals mg
  blt : ∃ mb, base.Ns builtinsNs mb ∧ ∀ x : Str, x ≠ "__name__" → mb x = bootBuiltins x
  nolimit : base.NoLimit

/-- the context: a def's body (or a comprehension's block) running. base: fixed through the whole law; s₀, H₀: the entry; outer: the frames whose slots others may change (a def's callers); stack: all frames that run;
   ex: iterators that were made ahead of the entry and are walked here (a comprehension's); fn: the names whose cells were made at the entry (a def: all; a comprehension's block: its own); calm: not within an except suite; pn: pins that every state bears; xe: what is wanted of an exception that leaves the code -/
structure Cx where
  prog : Program
  w : World
  K : PySem.W.Frag
  mg : Str → Option Value
  base : Heap
  A : Around
  N : List Str
  s₀ : Shared
  H₀ : Hp
  env : Env
  outer : List Env
  stack : List Env
  ex : List Addr
  fn : Str → Bool
  calm : Bool
  pn : List (Addr × Obj)
  xe : Value → Shared → Prop
/-- the callers' frames -/
def frs (l : List Env) : List Addr := l.filterMap (·.frame)
abbrev Cx.fs (X : Cx) : List Addr := frs X.outer

def Vis (sc : Scope) (x : Str) : Prop := sc.names.lookup x = some .local ∨ sc.names.lookup x = some .cell ∨ sc.names.lookup x = some .free
def Loc (sc : Scope) (x : Str) : Prop := sc.names.lookup x = some .local ∨ sc.names.lookup x = some .cell
def Look (env : Env) (h : Heap) (m : Str → Option Value) (x : Str) (u : Value) : Prop :=
  (env.kindOf x = some .local ∧ m x = some u) ∨ ((env.kindOf x = some .cell ∨ env.kindOf x = some .free) ∧ ∃ c, env.cells.lookup x = some c ∧ h.IsCell c (some u))

structure Cx.Ok (X : Cx) : Prop where
  mod : Mod X.K X.mg X.base
  kind : X.env.scope.kind = .function
  glob : X.env.globals = mainGlobals
  blt : X.env.builtins = builtinsNs
  above : X.s₀.heap.objs.size ≤ X.env.locals
  inj : ∀ x y c, X.env.cells.lookup x = some c → X.env.cells.lookup y = some c → x = y
  has : ∀ x, (X.env.kindOf x = some .cell ∨ X.env.kindOf x = some .free) → ∃ c, X.env.cells.lookup x = some c
  cab : ∀ x c, X.fn x = true → X.env.cells.lookup x = some c → X.s₀.heap.objs.size ≤ c
  hd : X.calm = true → X.A.handled = none
  frames : X.A.frames = some X.stack
  stk : X.stack = X.outer ∨ (X.stack = X.env :: X.outer ∧ X.env.frame = some X.env.locals)
  exf : ∀ b ∈ X.ex, b ≠ X.env.locals ∧ ∀ x c, X.env.cells.lookup x = some c → c ≠ b
  bs : ∀ b o, X.base.get? b = some o → X.s₀.heap.get? b = some o ∧ X.H₀ b = none
  bsz : X.base.objs.size ≤ X.s₀.heap.objs.size
  noex : ∀ b o, X.base.get? b = some o → b ∉ X.ex
  exfs : ∀ b ∈ X.ex, b ∉ X.fs
  funs : X.s₀.heap.FunFrames X.base X.outer
  frf : ∀ b ∈ X.fs, X.H₀ b = none

structure Inv (X : Cx) (pins : List (Addr × Obj)) (σ : List (Option V)) (H : Hp) (s : Shared) : Prop where
  ok : X.Ok
  os : s.os = X.s₀.os
  bare : AllBare s.gens
  base : Un X.fs X.ex X.H₀ H X.s₀.heap s.heap
  loc : ∃ m, s.heap.Ns X.env.locals m ∧ ∀ (i : Nat) (x : Str) (v : V), X.N[i]? = some x → σ[i]? = some (some v) → Vis X.env.scope x → ∃ u, RelV v u ∧ Look X.env s.heap m x u
  cell : ∀ x c, X.env.cells.lookup x = some c → ∃ v, s.heap.IsCell c v
  free : H X.env.locals = none
  freeC : ∀ x c, X.env.cells.lookup x = some c → H c = none
  pin : ∀ p ∈ X.pn ++ pins, s.heap.get? p.1 = some p.2 ∧ H p.1 = none ∧ p.1 ≠ X.env.locals ∧ p.1 ∉ X.fs ∧ ∀ v, p.2.data ≠ .cell v
  hok : HOk X.prog X.w H s.heap
  len : σ.length = X.N.length

section
variable {X : Cx} {pins : List (Addr × Obj)} {σ : List (Option V)} {H H' : Hp} {s : Shared} {h' : Heap}

theorem Cx.Ok.nofr (ok : X.Ok) {b : Addr} {o : Obj} (e : X.base.get? b = some o) : b ∉ X.fs := fun hb => by
  have := (ok.funs.mem hb).1
  rw [e] at this; cases this
theorem Inv.bs (I : Inv X pins σ H s) : ∀ b o, X.base.get? b = some o → s.heap.get? b = some o ∧ H b = none := fun b o e =>
  ⟨I.base.keep b o (I.ok.bs b o e).1 (I.ok.bs b o e).2 (I.ok.nofr e) (I.ok.noex b o e), I.base.free b o (I.ok.bs b o e).1 (I.ok.bs b o e).2 (I.ok.noex b o e)⟩
theorem Inv.bk (I : Inv X pins σ H s) : ∀ b o, X.base.get? b = some o → s.heap.get? b = some o := fun b o e => (I.bs b o e).1
theorem Inv.mod (I : Inv X pins σ H s) : Mod X.K X.mg X.base := I.ok.mod
theorem Inv.kIn (I : Inv X pins σ H s) : X.K.In s.heap := I.ok.mod.kin.keeps I.bk
theorem Inv.nolimit (I : Inv X pins σ H s) : s.heap.NoLimit := I.ok.mod.nolimit.keeps I.bk
/-- the frame over the base: for OpenK's rules (K.In X.base is I.mod.kin) -/
theorem Inv.fr (I : Inv X pins σ H s) : ∃ m, Fr X.base X.env.locals s.heap m :=
  let ⟨m, hn, _⟩ := I.loc
  ⟨m, hn, I.bk, Nat.le_trans I.ok.bsz I.ok.above⟩
theorem Inv.lt (I : Inv X pins σ H s) : X.env.locals < s.heap.objs.size := let ⟨_, hn, _⟩ := I.loc; hn.lt
theorem Inv.sz (I : Inv X pins σ H s) : X.s₀.heap.objs.size ≤ s.heap.objs.size := Nat.le_trans I.ok.above (Nat.le_of_lt I.lt)
theorem Inv.nofs (I : Inv X pins σ H s) {a : Addr} (h : s.heap.objs.size ≤ a) : a ∉ X.fs := fun hb => by
  obtain ⟨_, o, ho, _⟩ := I.ok.funs.mem hb
  exact absurd (Nat.lt_of_lt_of_le (Heap.lt_size ho) (Nat.le_trans I.sz h)) (Nat.lt_irrefl _)
theorem Inv.cne (I : Inv X pins σ H s) : ∀ x c, X.env.cells.lookup x = some c → c ≠ X.env.locals := fun x c e z => by
  obtain ⟨v, o, ho, hd⟩ := I.cell x c e
  obtain ⟨m, ⟨o', es, ep, ho', hd', _⟩, _⟩ := I.loc
  rw [z, ho'] at ho; cases ho; rw [hd'] at hd; cases hd
theorem Inv.funs (I : Inv X pins σ H s) : s.heap.FunFrames X.base X.outer := by
  have all : ∀ (l : List Env), (∀ b ∈ frs l, b ∈ X.fs) → X.s₀.heap.FunFrames X.base l → s.heap.FunFrames X.base l := by
    intro l
    induction l with
    | nil => intro _ _; trivial
    | cons env r ih =>
      intro hs hl
      obtain ⟨hk, ⟨L, o, hf, hn, ho, hd⟩, hr⟩ := hl
      have hL : L ∈ X.fs := hs L (by unfold frs; rw [List.filterMap_cons, hf]; exact List.mem_cons_self)
      obtain ⟨sl, e⟩ := I.base.slot L o ho (I.ok.frf L hL) hL fun z => I.ok.exfs L z hL
      exact ⟨hk, ⟨L, _, hf, hn, e, hd⟩, ih (fun b hb => hs b (by unfold frs; rw [List.filterMap_cons, hf]; exact List.mem_cons_of_mem _ hb)) hr⟩
  exact all X.outer (fun _ hb => hb) I.ok.funs

/-- the frames that run, for a call -/
theorem Inv.stack (I : Inv X pins σ H s) : s.heap.FunFrames X.base X.stack := by
  rcases I.ok.stk with e | ⟨e, hf⟩
  · rw [e]; exact I.funs
  · rw [e]
    obtain ⟨m, hn, _⟩ := I.loc
    refine .cons (by rw [I.ok.kind]; decide) hf hn ?_ I.funs
    exact Heap.get?_none_of_le (Nat.le_trans I.ok.bsz I.ok.above)
theorem Inv.stkSub (I : Inv X pins σ H s) : ∀ b ∈ frs X.stack, b ∈ X.env.locals :: X.fs := fun b hb => by
  rcases I.ok.stk with e | ⟨e, hf⟩
  · rw [e] at hb; exact List.mem_cons_of_mem _ hb
  · rw [e] at hb
    unfold frs at hb
    rw [List.filterMap_cons, hf] at hb
    exact hb
theorem Inv.stkFree (I : Inv X pins σ H s) : ∀ b ∈ frs X.stack, H b = none := fun b hb => by
  rcases List.mem_cons.mp (I.stkSub b hb) with e | hb
  · rw [e]; exact I.free
  · obtain ⟨_, o, ho, _⟩ := I.ok.funs.mem hb
    exact I.base.free b o ho (I.ok.frf b hb) fun z => I.ok.exfs b z hb

/-- THE STEP: the untracked objects but the frame and the records at ch are kept (the callers' frames up to slots), the frame's map is kept, the new abstract heap is held -/
theorem Inv.step {g' : Array GenState} {t' : Nat} {d' : Drawn} {ch : List Addr} (I : Inv X pins σ H s)
    (hch : ∀ b ∈ ch, (b ∈ X.ex ∨ X.s₀.heap.objs.size ≤ b) ∧ b ≠ X.env.locals ∧ (∀ x c, X.env.cells.lookup x = some c → c ≠ b) ∧ ∀ p ∈ X.pn ++ pins, p.1 ≠ b)
    (keep : ∀ b o, b ≠ X.env.locals → b ∉ X.fs → b ∉ ch → s.heap.get? b = some o → H b = none → h'.get? b = some o)
    (slot : ∀ b o, b ≠ X.env.locals → b ∈ X.fs → b ∉ ch → s.heap.get? b = some o → H b = none → ∃ sl, h'.get? b = some { o with slots := sl }) (free : ∀ b o, b ∉ ch → s.heap.get? b = some o → H b = none → H' b = none)
    (there : ∀ b o, b ∉ ch → s.heap.get? b = some o → ∃ o', h'.get? b = some o')
    (tups : ∀ b xs, H b = some (.tup xs) → H' b = some (.tup xs)) (frzs : ∀ b o u, H b = some (.frz o u) → H' b = some (.frz o u)) (tbls : ∀ b ps, H b = some (.tbl ps) → ∃ more, H' b = some (.tbl (ps ++ more)))
    (ns : ∀ m, s.heap.Ns X.env.locals m → h'.Ns X.env.locals m) (hok : HOk X.prog X.w H' h') (hg : AllBare g') :
    Inv X pins σ H' { s with heap := h', gens := g', drawn := d', toks := t' } := by
  have neL : ∀ b o, X.s₀.heap.get? b = some o → b ≠ X.env.locals := fun b o e => Nat.ne_of_lt (Nat.lt_of_lt_of_le (Heap.lt_size e) I.ok.above)
  have neC : ∀ b o, X.s₀.heap.get? b = some o → b ∉ X.ex → b ∉ ch := fun b o e hx hb => by
    rcases (hch b hb).1 with z | z
    · exact hx z
    · exact absurd (Nat.lt_of_lt_of_le (Heap.lt_size e) z) (Nat.lt_irrefl _)
  have cellK : ∀ x c, X.env.cells.lookup x = some c → ∀ v, s.heap.IsCell c v → h'.IsCell c v := fun x c e v ⟨o, ho, hd⟩ => by
    have nch : c ∉ ch := fun z => (hch c z).2.2.1 x c e rfl
    by_cases hc : c ∈ X.fs
    · obtain ⟨sl, q⟩ := slot c o (I.cne x c e) hc nch ho (I.freeC x c e)
      exact ⟨_, q, hd⟩
    · exact ⟨o, keep c o (I.cne x c e) hc nch ho (I.freeC x c e), hd⟩
  refine ⟨I.ok, I.os, hg, ⟨fun b o e n hb hx => ?_, fun b o e n hb hx => ?_, fun b o e n hx => ?_, fun b o e hx => ?_, fun b xs e => tups b xs (I.base.tups b xs e), fun b o xs e => frzs b o xs (I.base.frzs b o xs e), fun b ps e => ?_⟩, ?_, fun x c e => ?_, ?_, fun x c e => ?_, fun p hp => ?_, hok, I.len⟩
  · exact keep b o (neL b o e) hb (neC b o e hx) (I.base.keep b o e n hb hx) (I.base.free b o e n hx)
  · obtain ⟨sl, e1⟩ := I.base.slot b o e n hb hx
    obtain ⟨sl', e2⟩ := slot b _ (neL b o e) hb (neC b o e hx) e1 (I.base.free b o e n hx)
    exact ⟨sl', e2⟩
  · obtain ⟨o', e1⟩ := I.base.there b o e hx
    exact free b o' (neC b o e hx) e1 (I.base.free b o e n hx)
  · obtain ⟨o', e1⟩ := I.base.there b o e hx
    exact there b o' (neC b o e hx) e1
  · obtain ⟨m1, e1⟩ := I.base.tbls b ps e
    obtain ⟨m2, e2⟩ := tbls b _ e1
    exact ⟨m1 ++ m2, by rw [e2, Array.append_assoc]⟩
  · obtain ⟨m, hn, hl⟩ := I.loc
    refine ⟨m, ns m hn, fun i x v e1 e2 e3 => ?_⟩
    obtain ⟨u, r, l⟩ := hl i x v e1 e2 e3
    refine ⟨u, r, ?_⟩
    rcases l with l | ⟨k, c, e, z⟩
    · exact .inl l
    · exact .inr ⟨k, c, e, cellK x c e _ z⟩
  · obtain ⟨v, z⟩ := I.cell x c e
    exact ⟨v, cellK x c e v z⟩
  · obtain ⟨m, ⟨o, _, _, ho, _⟩, _⟩ := I.loc
    exact free _ o (fun z => (hch _ z).2.1 rfl) ho I.free
  · obtain ⟨v, o, ho, hd⟩ := I.cell x c e
    exact free c o (fun z => (hch c z).2.2.1 x c e rfl) ho (I.freeC x c e)
  · obtain ⟨e, n, ne, nf, d⟩ := I.pin p hp
    have nch : p.1 ∉ ch := fun z => (hch p.1 z).2.2.2 p hp rfl
    exact ⟨keep p.1 p.2 ne nf nch e n, free p.1 p.2 nch e n, ne, nf, d⟩
/-- .. where the frame's own object is kept too -/
theorem Inv.un {t' : Nat} (I : Inv X pins σ H s) (u : Un X.fs [] H H' s.heap h') (hok : HOk X.prog X.w H' h') : Inv X pins σ H' { s with heap := h', toks := t' } := by
  obtain ⟨m, ⟨o, es, ep, ho, r⟩, _⟩ := id I.loc
  obtain ⟨sl, hL⟩ := u.any ho I.free (by simp)
  exact I.step (g' := s.gens) (d' := s.drawn) (ch := []) (fun _ z => nomatch z) (fun b o _ hb _ e n => u.keep b o e n hb (by simp)) (fun b o _ hb _ e n => u.slot b o e n hb (by simp)) (fun b o _ e n => u.free b o e n (by simp)) (fun b o _ e => u.there b o e (by simp)) u.tups u.frzs u.tbls (fun m' hm => by
    obtain ⟨o', es', ep', ho', r'⟩ := hm
    rw [ho] at ho'; cases ho'
    exact ⟨_, es', ep', hL, r'⟩) hok I.bare
/-- behind a call (or a comprehension's block): the slots of this frame may have changed too, the records at ch may have turned -/
theorem Inv.call {g' : Array GenState} {t' : Nat} {d' : Drawn} {ch : List Addr} (I : Inv X pins σ H s) (u : Un (frs X.stack) ch H H' s.heap h') (hok : HOk X.prog X.w H' h') (hg : AllBare g')
    (hch : ∀ b ∈ ch, (b ∈ X.ex ∨ X.s₀.heap.objs.size ≤ b) ∧ b ≠ X.env.locals ∧ (∀ x c, X.env.cells.lookup x = some c → c ≠ b) ∧ ∀ p ∈ X.pn ++ pins, p.1 ≠ b) :
    Inv X pins σ H' { s with heap := h', gens := g', drawn := d', toks := t' } := by
  obtain ⟨m, ⟨o, es, ep, ho, r⟩, _⟩ := id I.loc
  obtain ⟨sl, hL⟩ := u.any ho I.free fun z => (hch _ z).2.1 rfl
  exact I.step (ch := ch) hch (fun b o hL hb hc e n => u.keep b o e n (fun z => (List.mem_cons.mp (I.stkSub b z)).elim hL hb) hc) (fun b o _ _ hc e n => u.any e n hc) (fun b o hc e n => u.free b o e n hc) (fun b o hc e => u.there b o e hc) u.tups u.frzs u.tbls (fun m' hm => by
    obtain ⟨o', es', ep', ho', r'⟩ := hm
    rw [ho] at ho'; cases ho'
    exact ⟨_, es', ep', hL, r'⟩) hok hg
/-- an untracked record of ours (an iterator) has turned -/
theorem Inv.turned {t' : Nat} {it : Addr} (I : Inv X pins σ H s) (k : ∀ b o, b ≠ it → s.heap.get? b = some o → h'.get? b = some o) (hn : H it = none) (hL : it ≠ X.env.locals)
    (h1 : it ∈ X.ex ∨ X.s₀.heap.objs.size ≤ it) (h2 : ∀ x c, X.env.cells.lookup x = some c → c ≠ it) (h3 : ∀ p ∈ X.pn ++ pins, p.1 ≠ it) : Inv X pins σ H { s with heap := h', toks := t' } := by
  have nit : ∀ b u, H b = some u → b ≠ it := fun b u e z => by rw [z, hn] at e; cases e
  refine I.step (g' := s.gens) (d' := s.drawn) (ch := [it]) (fun b hb => ?_) (fun b o _ _ hc e _ => k b o (fun z => hc (by simp [z])) e) (fun b o _ _ hc e _ => ⟨o.slots, k b o (fun z => hc (by simp [z])) e⟩) (fun _ _ _ _ n => n)
    (fun b o hc e => ⟨o, k b o (fun z => hc (by simp [z])) e⟩) (fun _ _ e => e) (fun _ _ _ e => e) (fun b ps e => ⟨#[], by rw [e]; simp⟩) (fun m hm => ?_) (fun b u e => ?_) I.bare
  · have e : b = it := by simpa using hb
    subst e
    exact ⟨h1, hL, h2, h3⟩
  · obtain ⟨o, es, ep, ho, r⟩ := hm
    exact ⟨o, es, ep, k _ o (Ne.symm hL) ho, r⟩
  · refine (I.hok b u e).stay (fun c v hc q => k c v ?_ q) (fun _ q => q) fun _ _ q => q
    rcases hc with z | z
    · rw [z]; exact nit b u e
    · exact nit c _ z
theorem Inv.tok (I : Inv X pins σ H s) (t : Nat) : Inv X pins σ H { s with toks := t } := I.un (h' := s.heap) (t' := t) Un.refl I.hok
/-- all objects kept -/
theorem Inv.kept {t' : Nat} (I : Inv X pins σ H s) (k : ∀ b u, s.heap.get? b = some u → h'.get? b = some u) : Inv X pins σ H { s with heap := h', toks := t' } := I.un (Un.kept k) (I.hok.kept k)
/-- a new object laid and tracked -/
theorem Inv.laid {a : Addr} {o : HO} {t' : Nat} (I : Inv X pins σ H s) (k : ∀ b u, s.heap.get? b = some u → h'.get? b = some u) (hp : s.heap.objs.size ≤ a) (new : ObjOk X.prog X.w (upd H a o) h' a o) :
    Inv X pins σ (upd H a o) { s with heap := h', toks := t' } := I.un (Un.laid k hp (I.hok.fresh hp)) (I.hok.laid k hp new)
/-- an object written -/
theorem Inv.write {x e : Addr} {o : HO} {t' : Nat} (I : Inv X pins σ H s) (mu : Mut (H x)) (he : e = x ∨ H e = some (.own x)) (k : ∀ b u, b ≠ e → s.heap.get? b = some u → h'.get? b = some u) (heo : ∃ u, h'.get? e = some u)
    (new : ObjOk X.prog X.w (upd H x o) h' x o) : Inv X pins σ (upd H x o) { s with heap := h', toks := t' } := I.un (Un.write mu he k heo) (I.hok.write mu he k heo new)
/-- forgetting slots, pins -/
theorem Inv.weak {σ' : List (Option V)} (I : Inv X pins σ H s) (hl : σ'.length = σ.length) (w : ∀ (i : Nat) v, σ'[i]? = some (some v) → σ[i]? = some (some v)) : Inv X pins σ' H s :=
  ⟨I.ok, I.os, I.bare, I.base, let ⟨m, hn, hl'⟩ := I.loc; ⟨m, hn, fun i x v e1 e2 e3 => hl' i x v e1 (w i v e2) e3⟩, I.cell, I.free, I.freeC, I.pin, I.hok, hl.trans I.len⟩
theorem Inv.pins_of {pins' : List (Addr × Obj)} (I : Inv X pins σ H s) (h : ∀ p ∈ pins', s.heap.get? p.1 = some p.2 ∧ H p.1 = none ∧ p.1 ≠ X.env.locals ∧ p.1 ∉ X.fs ∧ ∀ v, p.2.data ≠ .cell v) : Inv X pins' σ H s :=
  ⟨I.ok, I.os, I.bare, I.base, I.loc, I.cell, I.free, I.freeC, fun p hp => (List.mem_append.mp hp).elim (fun z => I.pin p (List.mem_append_left _ z)) (h p), I.hok, I.len⟩

theorem nodup_ix {N : List Str} (hN : N.Nodup) {i j : Nat} {x : Str} (a : N[i]? = some x) (b : N[j]? = some x) : i = j := by
  obtain ⟨h1, e1⟩ := List.getElem?_eq_some_iff.mp a
  obtain ⟨h2, e2⟩ := List.getElem?_eq_some_iff.mp b
  exact (List.getElem_inj hN).mp (e1.trans e2.symm)

/-- a name is stored; what changed -/
theorem store_ok2 {M : Model} {A : Around} {E : Value → Shared → Prop} {i : Nat} {x : Str} {v : V} {u : Value} {Q : Unit → Shared → Prop} (I : Inv X pins σ H s) (hN : X.N.Nodup) (hi : X.N[i]? = some x) (hx : Loc X.env.scope x) (r : RelV v u)
    (h : ∀ s', Inv X pins (σ.set i (some v)) H s' → (∃ a, Heap.SameBut a s.heap s'.heap ∧ (a = X.env.locals ∨ X.env.cells.lookup x = some a)) → Q () s') (hf : X.fn x = true ∨ X.env.scope.names.lookup x = some .local := by first | exact .inl rfl | exact .inr rfl | assumption) : wpAny M A (storeName X.env x u) Q E s := by
  obtain ⟨m, hn, hl⟩ := id I.loc
  have hcls : (X.env.scope.kind == .class || (X.env.scope.kind == .module && X.env.locals != X.env.globals)) = false := by rw [I.ok.kind]; rfl
  have hiσ : i < σ.length := by rw [I.len]; exact (List.getElem?_eq_some_iff.mp hi).1
  have cne := I.cne
  have tracked : ∀ {a : Addr} {h' : Heap}, (∃ o, s.heap.get? a = some o ∧ H a = none) → Heap.SameBut a s.heap h' → HOk X.prog X.w H h' := fun {a h'} ha hs b ob e => by
    obtain ⟨_, _, hfree⟩ := ha
    refine (I.hok b ob e).stay (fun c w' hc q => (hs.2 c ?_).trans q) (fun _ q => q) fun _ _ q => q
    rintro rfl
    rcases hc with rfl | hc
    · rw [hfree] at e; cases e
    · rw [hfree] at hc; cases hc
  rcases hx with hk | hk
  · refine wpAny_storeName_local hk hn (fun h' hn' hs => ?_) hcls
    obtain ⟨oL, _, _, hoL, _⟩ := id hn
    refine h _ ⟨I.ok, I.os, I.bare, ⟨fun b o e n hb hx => ?_, fun b o e n hb hx => ?_, I.base.free, fun b o e hx => ?_, I.base.tups, I.base.frzs, I.base.tbls⟩, ⟨_, hn', fun j y v' e1 e2 e3 => ?_⟩, fun y c e => ?_, I.free, I.freeC, fun p hp => ?_, tracked ⟨oL, hoL, I.free⟩ hs, by simpa using I.len⟩ ⟨_, hs, .inl rfl⟩
    · exact (hs.2 b (Nat.ne_of_lt (Nat.lt_of_lt_of_le (Heap.lt_size e) I.ok.above))).trans (I.base.keep b o e n hb hx)
    · obtain ⟨sl, e1⟩ := I.base.slot b o e n hb hx
      exact ⟨sl, (hs.2 b (Nat.ne_of_lt (Nat.lt_of_lt_of_le (Heap.lt_size e) I.ok.above))).trans e1⟩
    · obtain ⟨o', e1⟩ := I.base.there b o e hx
      exact ⟨o', (hs.2 b (Nat.ne_of_lt (Nat.lt_of_lt_of_le (Heap.lt_size e) I.ok.above))).trans e1⟩
    · by_cases hj : j = i
      · subst hj
        rw [hi] at e1; cases e1
        rw [List.getElem?_set_self hiσ] at e2
        cases e2
        exact ⟨u, r, .inl ⟨hk, by simp⟩⟩
      · rw [List.getElem?_set_ne (Ne.symm hj)] at e2
        obtain ⟨u', r', q⟩ := hl j y v' e1 e2 e3
        refine ⟨u', r', ?_⟩
        rcases q with ⟨k, e⟩ | ⟨k, c, e, z⟩
        · refine .inl ⟨k, ?_⟩
          have : y ≠ x := fun e => hj (nodup_ix hN e1 (e ▸ hi))
          simp [this, e]
        · exact .inr ⟨k, c, e, z.sameBut hs (cne y c e)⟩
    · obtain ⟨w', z⟩ := I.cell y c e
      exact ⟨w', z.sameBut hs (cne y c e)⟩
    · obtain ⟨e, n, ne, nf, d⟩ := I.pin p hp
      exact ⟨(hs.2 p.1 ne).trans e, n, ne, nf, d⟩
  · have hfn : X.fn x = true := by
      rcases hf with z | z
      · exact z
      · rw [z] at hk; cases hk
    obtain ⟨c, hc⟩ := I.ok.has x (.inl hk)
    obtain ⟨w', z⟩ := I.cell x c hc
    refine wpAny_storeName_cell I.ok.kind hk hc z (fun h' hc' hs => ?_)
    obtain ⟨oc, hoc, hocd⟩ := id z
    refine h { s with heap := h' } ⟨I.ok, I.os, I.bare, ⟨fun b o e n hb hx => ?_, fun b o e n hb hx => ?_, I.base.free, fun b o e hx => ?_, I.base.tups, I.base.frzs, I.base.tbls⟩, ⟨m, hn.sameBut hs (Ne.symm (cne x c hc)), fun j y v' e1 e2 e3 => ?_⟩, fun y c' e => ?_, I.free, I.freeC, fun p hp => ?_, tracked ⟨oc, hoc, I.freeC x c hc⟩ hs, by simpa using I.len⟩ ⟨c, hs, .inr hc⟩
    · exact (hs.2 b (Nat.ne_of_lt (Nat.lt_of_lt_of_le (Heap.lt_size e) (I.ok.cab x c hfn hc)))).trans (I.base.keep b o e n hb hx)
    · obtain ⟨sl, e1⟩ := I.base.slot b o e n hb hx
      exact ⟨sl, (hs.2 b (Nat.ne_of_lt (Nat.lt_of_lt_of_le (Heap.lt_size e) (I.ok.cab x c hfn hc)))).trans e1⟩
    · obtain ⟨o', e1⟩ := I.base.there b o e hx
      exact ⟨o', (hs.2 b (Nat.ne_of_lt (Nat.lt_of_lt_of_le (Heap.lt_size e) (I.ok.cab x c hfn hc)))).trans e1⟩
    · by_cases hj : j = i
      · subst hj
        rw [hi] at e1; cases e1
        rw [List.getElem?_set_self hiσ] at e2
        cases e2
        exact ⟨u, r, .inr ⟨.inl hk, c, hc, hc'⟩⟩
      · rw [List.getElem?_set_ne (Ne.symm hj)] at e2
        obtain ⟨u', r', q⟩ := hl j y v' e1 e2 e3
        refine ⟨u', r', ?_⟩
        rcases q with q | ⟨k, c', e, z'⟩
        · exact .inl q
        · refine .inr ⟨k, c', e, z'.sameBut hs ?_⟩
          rintro rfl
          exact hj (nodup_ix hN e1 (I.ok.inj _ _ _ e hc ▸ hi))
    · by_cases hcc : c' = c
      · subst hcc; exact ⟨_, hc'⟩
      · obtain ⟨w2, z2⟩ := I.cell y c' e
        exact ⟨w2, z2.sameBut hs hcc⟩
    · obtain ⟨e, n, ne, nf, d⟩ := I.pin p hp
      refine ⟨(hs.2 p.1 ?_).trans e, n, ne, nf, d⟩
      intro q
      rw [q, hoc] at e
      have q' : oc = p.2 := Option.some.inj e
      exact d w' (by rw [← q']; exact hocd)
theorem store_ok {M : Model} {A : Around} {E : Value → Shared → Prop} {i : Nat} {x : Str} {v : V} {u : Value} {Q : Unit → Shared → Prop} (I : Inv X pins σ H s) (hN : X.N.Nodup) (hi : X.N[i]? = some x) (hx : Loc X.env.scope x) (r : RelV v u)
    (h : ∀ s', Inv X pins (σ.set i (some v)) H s' → Q () s') (hf : X.fn x = true ∨ X.env.scope.names.lookup x = some .local := by first | exact .inl rfl | exact .inr rfl | assumption) : wpAny M A (storeName X.env x u) Q E s :=
  store_ok2 I hN hi hx r (fun s' I' _ => h s' I') hf
/-- behind a call or a block, the state as it is -/
theorem Inv.call' {s' : Shared} {ch : List Addr} (I : Inv X pins σ H s) (ho : s'.os = s.os) (u : Un (frs X.stack) ch H H' s.heap s'.heap) (hok : HOk X.prog X.w H' s'.heap) (hg : AllBare s'.gens)
    (hch : ∀ b ∈ ch, (b ∈ X.ex ∨ X.s₀.heap.objs.size ≤ b) ∧ b ≠ X.env.locals ∧ (∀ x c, X.env.cells.lookup x = some c → c ≠ b) ∧ ∀ p ∈ X.pn ++ pins, p.1 ≠ b) : Inv X pins σ H' s' := by
  obtain ⟨h', g', d', t', o'⟩ := s'
  have e : o' = s.os := ho
  subst e
  exact I.call (g' := g') (t' := t') (d' := d') u hok hg hch
end

/-! ### the judgements -/
/-- an exception: its class, its own dict's address (where it has one), the abstract heap behind it -/
abbrev XK := Value → Option Addr → Hp → Prop
abbrev St := List (Option V)
abbrev VK := V → Hp → Prop
/-- an expression's reading; a test's; an argument list's -/
abbrev TE := St → Hp → VK → Prop
abbrev TT := St → Hp → (Bool → Hp → Prop) → Prop
abbrev TA := St → Hp → (List V → Hp → Prop) → Prop
/-- what is wanted behind a statement -/
structure Ends where
  nx : St → Hp → Prop
  rt : VK
  bk : St → Hp → Prop := fun _ _ => False
  ct : St → Hp → Prop := fun _ _ => False
abbrev TS := Ends → St → Hp → Prop

def EP (X : Cx) (pins : List (Addr × Obj)) (σ : St) (Q : VK) (u : Value) (s' : Shared) : Prop := ∃ v H', Inv X pins σ H' s' ∧ RelV v u ∧ Q v H'
def TP (X : Cx) (pins : List (Addr × Obj)) (σ : St) (Q : Bool → Hp → Prop) (b : Bool) (s' : Shared) : Prop := ∃ H', Inv X pins σ H' s' ∧ Q b H'
def AP (X : Cx) (pins : List (Addr × Obj)) (σ : St) (Q : List V → Hp → Prop) (us : List Value) (s' : Shared) : Prop := ∃ vs H', Inv X pins σ H' s' ∧ Vals vs us ∧ Q vs H'
def SP (X : Cx) (pins : List (Addr × Obj)) (D : Ends) (f : Flow) (s' : Shared) : Prop :=
  match f with
  | .next => ∃ σ' H', Inv X pins σ' H' s' ∧ D.nx σ' H'
  | .brk => ∃ σ' H', Inv X pins σ' H' s' ∧ D.bk σ' H'
  | .cont => ∃ σ' H', Inv X pins σ' H' s' ∧ D.ct σ' H'
  | .ret u => ∃ v σ' H', Inv X pins σ' H' s' ∧ RelV v u ∧ D.rt v H'

def PE (X : Cx) (e : Expr) (t : TE) : Prop :=
  ∀ (pins : List (Addr × Obj)) (s : Shared) (σ : St) (H : Hp) (Q : VK), Inv X pins σ H s → t σ H Q → wpAny (model X.prog X.w) X.A (eval e X.env) (EP X pins σ Q) X.xe s
def PT (X : Cx) (e : Expr) (t : TT) : Prop :=
  ∀ (pins : List (Addr × Obj)) (s : Shared) (σ : St) (H : Hp) (Q : Bool → Hp → Prop), Inv X pins σ H s → t σ H Q → wpAny (model X.prog X.w) X.A (isTrue e X.env (eval e X.env)) (TP X pins σ Q) X.xe s
/-- a test whatever its 'whole' is (and, or) -/
def PW (X : Cx) (e : Expr) (t : TT) : Prop :=
  ∀ (whole : Sem Value) (pins : List (Addr × Obj)) (s : Shared) (σ : St) (H : Hp) (Q : Bool → Hp → Prop), Inv X pins σ H s → t σ H Q → wpAny (model X.prog X.w) X.A (isTrue e X.env whole) (TP X pins σ Q) X.xe s
theorem PW.pt {X : Cx} {e : Expr} {t : TT} (h : PW X e t) : PT X e t := h _
/-- an argument list (no star), from the left -/
def PA (X : Cx) (es : List Expr) (t : TA) : Prop :=
  ∀ (pos : Pos) (pins : List (Addr × Obj)) (s : Shared) (σ : St) (H : Hp) (Q : List V → Hp → Prop), Inv X pins σ H s → t σ H Q → wpAny (model X.prog X.w) X.A (spliced (backTo pos (starEach es X.env))) (AP X pins σ Q) X.xe s
def PS (X : Cx) (st : Stmt) (t : TS) : Prop :=
  ∀ (pins : List (Addr × Obj)) (s : Shared) (σ : St) (H : Hp) (D : Ends), Inv X pins σ H s → t D σ H → wpAny (model X.prog X.w) X.A (exec st X.env) (SP X pins D) X.xe s
def PSs (X : Cx) (st : List Stmt) (t : TS) : Prop :=
  ∀ (pins : List (Addr × Obj)) (s : Shared) (σ : St) (H : Hp) (D : Ends), Inv X pins σ H s → t D σ H → wpAny (model X.prog X.w) X.A (execs st X.env) (SP X pins D) X.xe s
/-- weaken the end -/
theorem thn {α : Type} {t : Sem α} {Q Q' : α → Shared → Prop} {M : Model} {A : Around} {E : Value → Shared → Prop} {s : Shared} (h : wpAny M A t Q E s) (hQ : ∀ a s, Q a s → Q' a s) : wpAny M A t Q' E s := wpAny_mono h hQ fun _ _ x => x
end L2

namespace L2
open PySem PySem.Spec PyProof.Rows
section
variable {X : Cx}

/-- two expressions in a row -/
theorem bin {a b : Expr} {ta tb : TE} (ha : PE X a ta) (hb : PE X b tb) {pins : List (Addr × Obj)} {s : Shared} {σ : St} {H : Hp} {R : V → V → Hp → Prop} (I : Inv X pins σ H s) (h : ta σ H fun x H1 => tb σ H1 fun y H2 => R x y H2)
    {α : Type} {Q : α → Shared → Prop} {f : Value → Value → Sem α}
    (hf : ∀ v u s2 x y H2, Inv X pins σ H2 s2 → RelV x v → RelV y u → R x y H2 → wpAny (model X.prog X.w) X.A (f v u) Q X.xe s2) :
    wpAny (model X.prog X.w) X.A (eval a X.env) (fun v s₁ => wpAny (model X.prog X.w) X.A (eval b X.env) (fun u s₂ => wpAny (model X.prog X.w) X.A (f v u) Q X.xe s₂) X.xe s₁) X.xe s := by
  refine thn (ha pins s σ H _ I h) fun v s1 ⟨x, H1, I1, r1, q1⟩ => ?_
  refine thn (hb pins s1 σ H1 _ I1 q1) fun u s2 ⟨y, H2, I2, r2, q2⟩ => ?_
  exact hf v u s2 x y H2 I2 r1 r2 q2

/-! ### names and constants -/
def tVar (i : Nat) : TE := fun σ H Q => ∃ v, σ[i]? = some (some v) ∧ Q v H
def tC (v : V) : TE := fun _ H Q => Q v H
theorem pe_var {i : Nat} {x : Str} {pos : Pos} (hN : X.N[i]? = some x) (hv : Vis X.env.scope x) (hd : (x == ("__debug__" : Str)) = false := by decide) (hcd : (x == ("__classdict__" : Str)) = false := by decide) : PE X (.Name x pos) (tVar i) := by
  intro pins s σ H Q I h
  obtain ⟨v, e, h⟩ := h
  obtain ⟨m, hn, hl⟩ := I.loc
  obtain ⟨u, r, l⟩ := hl i x v hN e hv
  have fin : EP X pins σ Q u s := ⟨v, H, I, r, h⟩
  rcases l with ⟨hk, hm⟩ | ⟨hk, c, hc, hcell⟩
  · exact wpAny_Name (wpAny_loadName_local I.ok.kind hk hn hm fin) hd
  · rcases hk with hk | hk
    · exact wpAny_Name (wpAny_loadName_cell I.ok.kind hk hc hcell fin) hd
    · exact wpAny_Name (wpAny_loadName_free I.ok.kind hk hc hcell fin hcd) hd
theorem pe_int {i j pos} : PE X (.Constant (.int i) j pos) (tC (.int i)) := fun _ _ _ H _ I h => wpAny_Constant_int ⟨.int i, H, I.tok _, ⟨_, rfl⟩, h⟩
theorem pe_bl {b j pos} : PE X (.Constant (.bool b) j pos) (tC (.bl b)) := fun _ _ _ H _ I h => Constant_bool ⟨.bl b, H, I, rfl, h⟩
theorem pe_non {j pos} : PE X (.Constant .none j pos) (tC .non) := fun _ _ _ H _ I h => Constant_none ⟨.non, H, I, rfl, h⟩
theorem pe_str {x j pos} : PE X (.Constant (.str x) j pos) (tC (.str x)) := fun _ _ _ H _ I h => Calls.Constant_str ⟨.str x, H, I.tok _, ⟨_, rfl⟩, h⟩

/-- a global name of the def -/
def Gl (X : Cx) (x : Str) : Prop := X.env.kindOf x = some .globalImplicit
theorem ld_glob {E : Value → Shared → Prop} {pins : List (Addr × Obj)} {s : Shared} {σ : St} {H : Hp} {x : Str} {u : Value} {pos : Pos} {Q : Value → Shared → Prop} (I : Inv X pins σ H s) (hg : Gl X x) (hm : X.mg x = some u) (h : Q u s)
    (hd : (x == ("__debug__" : Str)) = false := by decide) : wpAny (model X.prog X.w) X.A (eval (.Name x pos) X.env) Q E s :=
  Calls.Name_function_global I.ok.kind hg (Calls.loadGlobal_global (by rw [I.ok.glob]; exact I.mod.glob.keeps I.bk) hm h) hd
theorem ld_blt {E : Value → Shared → Prop} {pins : List (Addr × Obj)} {s : Shared} {σ : St} {H : Hp} {x : Str} {u : Value} {pos : Pos} {Q : Value → Shared → Prop} (I : Inv X pins σ H s) (hg : Gl X x) (hm : X.mg x = none) (hv : bootBuiltins x = some u) (h : Q u s)
    (hn : x ≠ "__name__" := by decide) (hd : (x == ("__debug__" : Str)) = false := by decide) : wpAny (model X.prog X.w) X.A (eval (.Name x pos) X.env) Q E s := by
  obtain ⟨mb, h1, h2⟩ := I.mod.blt
  exact Calls.Name_function_global I.ok.kind hg (Calls.loadGlobal_builtin (by rw [I.ok.glob]; exact I.mod.glob.keeps I.bk) hm (by rw [I.ok.blt]; exact h1.keeps I.bk) ((h2 x hn).trans hv) h) hd
/-- a module's constant, a class, a function, as a value -/
theorem pe_glob {x : Str} {v : V} {u : Value} {pos : Pos} (hg : Gl X x) (hm : X.mg x = some u) (r : RelV v u) (hd : (x == ("__debug__" : Str)) = false := by decide) : PE X (.Name x pos) (tC v) :=
  fun _ _ _ H _ I h => ld_glob I hg hm ⟨v, H, I, r, h⟩ hd
theorem pe_bltn {x : Str} {v : V} {u : Value} {pos : Pos} (hg : Gl X x) (hm : X.mg x = none) (hv : bootBuiltins x = some u) (r : RelV v u) (hn : x ≠ "__name__" := by decide) (hd : (x == ("__debug__" : Str)) = false := by decide) : PE X (.Name x pos) (tC v) :=
  fun _ _ _ H _ I h => ld_blt I hg hm hv ⟨v, H, I, r, h⟩ hn hd

/-! ### arithmetic -/
/-- two ints -/
def t2I (ta tb : TE) (k : Int → Int → Hp → Prop) : St → Hp → Prop := fun σ H => ta σ H fun x H1 => tb σ H1 fun y H2 => ∃ i j, x = .int i ∧ y = .int j ∧ k i j H2
def tAdd (ta tb : TE) : TE := fun σ H Q => t2I ta tb (fun i j H2 => Q (.int (i + j)) H2) σ H
def tSub (ta tb : TE) : TE := fun σ H Q => t2I ta tb (fun i j H2 => Q (.int (i - j)) H2) σ H
/-- the left factor below 2^64 -/
def tMul (ta tb : TE) : TE := fun σ H Q => t2I ta tb (fun i j H2 => (-(2 ^ 64) < i ∧ i < 2 ^ 64) ∧ Q (.int (i * j)) H2) σ H
variable {a b : Expr} {ta tb : TE} {pos : Pos}
theorem pe_add (ha : PE X a ta) (hb : PE X b tb) : PE X (.BinOp a .Add b pos) (tAdd ta tb) := by
  intro pins s σ H Q I h
  refine wpAny_BinOp (bin ha hb I h fun v u s2 x y H2 I2 rx ry q => ?_)
  obtain ⟨i, j, rfl, rfl, q⟩ := q
  obtain ⟨t, rfl⟩ := rx
  obtain ⟨t', rfl⟩ := ry
  exact add_int ⟨.int _, H2, I2.tok _, ⟨_, rfl⟩, q⟩
theorem pe_sub (ha : PE X a ta) (hb : PE X b tb) : PE X (.BinOp a .Sub b pos) (tSub ta tb) := by
  intro pins s σ H Q I h
  refine wpAny_BinOp (bin ha hb I h fun v u s2 x y H2 I2 rx ry q => ?_)
  obtain ⟨i, j, rfl, rfl, q⟩ := q
  obtain ⟨t, rfl⟩ := rx
  obtain ⟨t', rfl⟩ := ry
  exact sub_int ⟨.int _, H2, I2.tok _, ⟨_, rfl⟩, q⟩
theorem pe_mul (ha : PE X a ta) (hb : PE X b tb) : PE X (.BinOp a .Mult b pos) (tMul ta tb) := by
  intro pins s σ H Q I h
  refine wpAny_BinOp (bin ha hb I h fun v u s2 x y H2 I2 rx ry q => ?_)
  obtain ⟨i, j, rfl, rfl, ⟨q1, q2⟩, q⟩ := q
  obtain ⟨t, rfl⟩ := rx
  obtain ⟨t', rfl⟩ := ry
  exact mul_int ⟨.int _, H2, I2.tok _, ⟨_, rfl⟩, q⟩ (.of_left (intBits_le_64 q1 q2))

/-! ### comparisons -/
def PC (X : Cx) (op : CmpOp) (a b : Expr) (t : TE) : Prop :=
  ∀ (pins : List (Addr × Obj)) (s : Shared) (σ : St) (H : Hp) (Q : VK), Inv X pins σ H s → t σ H Q →
    wpAny (model X.prog X.w) X.A (eval a X.env) (fun v s₁ => wpAny (model X.prog X.w) X.A (eval b X.env) (fun u s₂ => wpAny (model X.prog X.w) X.A (compareOp op v u) (EP X pins σ Q) X.xe s₂) X.xe s₁) X.xe s
theorem nobehind (b : Expr) {op : CmpOp} (h : op ≠ .In) (h2 : op ≠ .NotIn) : behindInMarks op b = false := by
  have e1 : (op == CmpOp.In) = false := by cases op <;> first | rfl | exact absurd rfl h
  have e2 : (op == CmpOp.NotIn) = false := by cases op <;> first | rfl | exact absurd rfl h2
  cases b <;> simp [behindInMarks, e1, e2]
def tCmp (p : Int → Int → Bool) (ta tb : TE) : TE := fun σ H Q => t2I ta tb (fun i j H2 => Q (.bl (p i j)) H2) σ H
abbrev tLt : TE → TE → TE := tCmp fun i j => decide (i < j)
abbrev tLe : TE → TE → TE := tCmp fun i j => decide (i ≤ j)
abbrev tGt : TE → TE → TE := tCmp fun i j => decide (j < i)
abbrev tGe : TE → TE → TE := tCmp fun i j => decide (j ≤ i)
abbrev tEqI : TE → TE → TE := tCmp fun i j => decide (i = j)
abbrev tNeI : TE → TE → TE := tCmp fun i j => !decide (i = j)
/-- a comparison of two ints, by its rule -/
theorem pc_int {op : CmpOp} {p : Int → Int → Bool} (ha : PE X a ta) (hb : PE X b tb)
    (rule : ∀ (i j : Int) (t u : Tok) (Q : Value → Shared → Prop) (s : Shared), Q (.bool (p i j)) s → wpAny (model X.prog X.w) X.A (compareOp op (.int i t) (.int j u)) Q X.xe s) : PC X op a b (tCmp p ta tb) := by
  intro pins s σ H Q I h
  refine bin ha hb I h fun v u s2 x y H2 I2 rx ry q => ?_
  obtain ⟨i, j, rfl, rfl, q⟩ := q
  obtain ⟨t, rfl⟩ := rx
  obtain ⟨t', rfl⟩ := ry
  exact rule i j t t' _ s2 ⟨.bl _, H2, I2, rfl, q⟩
theorem pc_lt (ha : PE X a ta) (hb : PE X b tb) : PC X .Lt a b (tLt ta tb) := pc_int ha hb fun _ _ _ _ _ _ h => lt_int h
theorem pc_le (ha : PE X a ta) (hb : PE X b tb) : PC X .LtE a b (tLe ta tb) := pc_int ha hb fun _ _ _ _ _ _ h => le_int h
theorem pc_gt (ha : PE X a ta) (hb : PE X b tb) : PC X .Gt a b (tGt ta tb) := pc_int ha hb fun _ _ _ _ _ _ h => gt_int h
theorem pc_ge (ha : PE X a ta) (hb : PE X b tb) : PC X .GtE a b (tGe ta tb) := pc_int ha hb fun _ _ _ _ _ _ h => ge_int h
theorem pc_eqI (ha : PE X a ta) (hb : PE X b tb) : PC X .Eq a b (tEqI ta tb) := pc_int ha hb fun _ _ _ _ _ _ h => eq_int (by rw [Bool.beq_eq_decide_eq]; exact h)
theorem pc_neI (ha : PE X a ta) (hb : PE X b tb) : PC X .NotEq a b (tNeI ta tb) := pc_int ha hb fun _ _ _ _ _ _ h => ne_int (by rw [bne, Bool.beq_eq_decide_eq]; exact h)
/-- is None -/
def tIsN (ta : TE) : TE := fun σ H Q => ta σ H fun x H1 => Q (.bl (decide (x = .non))) H1
def tNotN (ta : TE) : TE := fun σ H Q => ta σ H fun x H1 => Q (.bl (!decide (x = .non))) H1
theorem RelV.none_iff {x : V} {v : Value} (r : RelV x v) : (v == Value.none) = decide (x = .non) := by
  cases x with
  | non => cases r; rfl
  | bl _ => cases r; rfl
  | int _ => obtain ⟨t, rfl⟩ := r; rfl
  | str _ => obtain ⟨t, rfl⟩ := r; rfl
  | byt _ => obtain ⟨t, rfl⟩ := r; rfl
  | flt _ => obtain ⟨t, rfl⟩ := r; rfl
  | ref _ => cases r; rfl
  | ty _ => cases r; rfl
theorem pc_isN {j pos'} (ha : PE X a ta) : PC X .Is a (.Constant .none j pos') (tIsN ta) := by
  intro pins s σ H Q I h
  refine thn (ha pins s σ H _ I h) fun v s1 ⟨x, H1, I1, r1, q1⟩ => ?_
  exact Constant_none (is_none_gen ⟨.bl _, H1, I1, by rw [r1.none_iff]; rfl, q1⟩)
theorem pc_notN {j pos'} (ha : PE X a ta) : PC X .IsNot a (.Constant .none j pos') (tNotN ta) := by
  intro pins s σ H Q I h
  refine thn (ha pins s σ H _ I h) fun v s1 ⟨x, H1, I1, r1, q1⟩ => ?_
  exact Constant_none (isnot_none_gen ⟨.bl _, H1, I1, by rw [r1.none_iff]; rfl, q1⟩)
/-- a comparison as a value, as a test -/
def tB (t : TE) : TT := fun σ H Q => t σ H fun x H1 => ∃ c, x = .bl c ∧ Q c H1
theorem pe_cmp {op : CmpOp} {t : TE} (h : PC X op a b t) (h1 : behindInMarks op b = false := by first | exact nobehind _ (by decide) (by decide) | rfl) : PE X (.Compare a [op] [b] pos) t := fun pins s σ H Q I hw => wpAny_Compare1 (h pins s σ H Q I hw) h1
theorem pt_cmp {op : CmpOp} {t : TE} (h : PC X op a b t) (h1 : behindInMarks op b = false := by first | exact nobehind _ (by decide) (by decide) | rfl) : PT X (.Compare a [op] [b] pos) (tB t) := by
  intro pins s σ H Q I hw
  refine wpAny_isTrue_Compare1 (thn (h pins s σ H _ I hw) fun v s1 h1 => thn h1 fun u s2 h2 => thn h2 fun c s3 ⟨x, H1, I1, r1, q1⟩ => ?_) h1
  obtain ⟨d, rfl, q⟩ := q1
  cases r1
  exact wpAny_truthy_bool ⟨H1, I1, q⟩
/-- an expression whose value is a bool, as a test -/
theorem pt_val {e : Expr} {t : TE} (h : PE X e t) (he : ∀ whole, isTrue e X.env whole = (do let v ← whole; standAt e.pos; holding [v] (truthy v)) := by intro _; rfl) : PT X e (tB t) := by
  intro pins s σ H Q I hw
  refine isTrue_plain (thn (h pins s σ H _ I hw) fun v s1 ⟨x, H1, I1, r1, q1⟩ => ?_) (he _)
  obtain ⟨d, rfl, q⟩ := q1
  cases r1
  exact wpAny_truthy_bool ⟨H1, I1, q⟩

/-! ### and, or, not -/
variable {tA tB' : TT} {rest : List Expr}
def tAnd (t u : TT) : TT := fun σ H Q => t σ H fun c H1 => if c = true then u σ H1 Q else Q false H1
def tOr (t u : TT) : TT := fun σ H Q => t σ H fun c H1 => if c = true then Q true H1 else u σ H1 Q
def tNot (t : TT) : TT := fun σ H Q => t σ H fun c H1 => Q (!c) H1
theorem pw_and1 (ha : PT X a tA) : PW X (.BoolOp .And [a] pos) tA := by
  intro wh pins s σ H Q I h
  refine isTrue_and (thn (ha pins s σ H Q I h) fun c s1 e => ?_)
  cases c with
  | true => exact isTrue_and_nil e
  | false => exact e
theorem pw_or1 (ha : PT X a tA) : PW X (.BoolOp .Or [a] pos) tA := by
  intro wh pins s σ H Q I h
  refine isTrue_or (thn (ha pins s σ H Q I h) fun c s1 e => ?_)
  cases c with
  | false => exact isTrue_or_nil e
  | true => exact e
theorem pw_and (ha : PT X a tA) (hb : PW X (.BoolOp .And (b :: rest) pos) tB') : PW X (.BoolOp .And (a :: b :: rest) pos) (tAnd tA tB') := by
  intro wh pins s σ H Q I h
  refine isTrue_and (thn (ha pins s σ H _ I h) fun c s1 ⟨H1, I1, q1⟩ => ?_)
  cases c with
  | true => exact hb wh pins s1 σ H1 Q I1 q1
  | false => exact ⟨H1, I1, q1⟩
theorem pw_or (ha : PT X a tA) (hb : PW X (.BoolOp .Or (b :: rest) pos) tB') : PW X (.BoolOp .Or (a :: b :: rest) pos) (tOr tA tB') := by
  intro wh pins s σ H Q I h
  refine isTrue_or (thn (ha pins s σ H _ I h) fun c s1 ⟨H1, I1, q1⟩ => ?_)
  cases c with
  | true => exact ⟨H1, I1, q1⟩
  | false => exact hb wh pins s1 σ H1 Q I1 q1
theorem pt_not (ha : PT X a tA) : PT X (.UnaryOp .Not a pos) (tNot tA) := by
  intro pins s σ H Q I h
  exact isTrue_not (ha pins s σ H (fun c H1 => Q (!c) H1) I h)
/-- .. as values (bools) -/
def tAndV (ta tb : TE) : TE := fun σ H Q => ta σ H fun x H1 => ∃ c, x = .bl c ∧ if c = true then tb σ H1 Q else Q (.bl false) H1
def tOrV (ta tb : TE) : TE := fun σ H Q => ta σ H fun x H1 => ∃ c, x = .bl c ∧ if c = true then Q (.bl true) H1 else tb σ H1 Q
def tNotV (ta : TE) : TE := fun σ H Q => ta σ H fun x H1 => ∃ c, x = .bl c ∧ Q (.bl (!c)) H1
theorem pe_one {op} {t : TE} (h : PE X a t) : PE X (.BoolOp op [a] pos) t := fun pins s σ H Q I hw => BoolOp_one (h pins s σ H Q I hw)
theorem pe_and (ha : PE X a ta) (hb : PE X (.BoolOp .And (b :: rest) pos) tb) : PE X (.BoolOp .And (a :: b :: rest) pos) (tAndV ta tb) := by
  intro pins s σ H Q I h
  refine BoolOp_and (thn (ha pins s σ H _ I h) fun v s1 ⟨x, H1, I1, r1, q1⟩ => ?_)
  obtain ⟨c, rfl, q1⟩ := q1
  cases r1
  refine wpAny_truthy_bool ?_
  cases c with
  | true => exact hb pins s1 σ H1 Q I1 q1
  | false => exact ⟨.bl false, H1, I1, rfl, q1⟩
theorem pe_or (ha : PE X a ta) (hb : PE X (.BoolOp .Or (b :: rest) pos) tb) : PE X (.BoolOp .Or (a :: b :: rest) pos) (tOrV ta tb) := by
  intro pins s σ H Q I h
  refine BoolOp_or (thn (ha pins s σ H _ I h) fun v s1 ⟨x, H1, I1, r1, q1⟩ => ?_)
  obtain ⟨c, rfl, q1⟩ := q1
  cases r1
  refine wpAny_truthy_bool ?_
  cases c with
  | false => exact hb pins s1 σ H1 Q I1 q1
  | true => exact ⟨.bl true, H1, I1, rfl, q1⟩
theorem pe_not (ha : PE X a ta) : PE X (.UnaryOp .Not a pos) (tNotV ta) := by
  intro pins s σ H Q I h
  refine UnaryOp_ (thn (ha pins s σ H _ I h) fun v s1 ⟨x, H1, I1, r1, q1⟩ => ?_)
  obtain ⟨c, rfl, q1⟩ := q1
  cases r1
  exact not_of (wpAny_truthy_bool ⟨.bl (!c), H1, I1, rfl, q1⟩)
/-- a if t else b -/
def tIf (t : TT) (ta tb : TE) : TE := fun σ H Q => t σ H fun c H1 => if c = true then ta σ H1 Q else tb σ H1 Q
theorem pe_ifExp {c : Expr} (hc : PT X c tA) (ha : PE X a ta) (hb : PE X b tb) : PE X (.IfExp c a b pos) (tIf tA ta tb) := by
  intro pins s σ H Q I h
  refine wpAny_IfExp (thn (hc pins s σ H _ I h) fun d s1 ⟨H1, I1, q1⟩ => ?_)
  cases d with
  | true => exact ha pins s1 σ H1 Q I1 q1
  | false => exact hb pins s1 σ H1 Q I1 q1
end
end L2

namespace L2
open PySem PySem.Spec PyProof.Rows

/-! ### a list, a tuple that is read: tracked, frozen, or an object of the module -/
def SqL (K : PySem.W.Frag) (H : Hp) (a : Addr) (xs : List V) : Prop :=
  Rd H a (.lst xs) ∨
    ∃ (o : Obj) (its : Array Value) (n : Nat), K.lookup a = some o ∧ o.cls = .type "list" ∧ o.dict = none ∧ o.data = .seq its n ∧ its.size ≤ sizeLine ∧ Vals xs its.toList
def SqT (K : PySem.W.Frag) (H : Hp) (a : Addr) (xs : List V) : Prop :=
  Rd H a (.tup xs) ∨
    ∃ (o : Obj) (its : Array Value) (n : Nat), K.lookup a = some o ∧ o.cls = .type "tuple" ∧ o.data = .seq its n ∧ its.size ≤ sizeLine ∧ Vals xs its.toList
def absV : Value → Option V
  | .none => some .non
  | .bool b => some (.bl b)
  | .int i _ => some (.int i)
  | .str x _ => some (.str x)
  | .bytes b _ => some (.byt b)
  | .float b _ => some (.flt b)
  | .ref a => some (.ref a)
  | .type n => some (.ty n)
  | _ => none
theorem RelV.abs {x : V} {u : Value} (r : RelV x u) : absV u = some x := by
  cases x with
  | non => cases r; rfl
  | bl _ => cases r; rfl
  | int _ => obtain ⟨t, rfl⟩ := r; rfl
  | str _ => obtain ⟨t, rfl⟩ := r; rfl
  | byt _ => obtain ⟨t, rfl⟩ := r; rfl
  | flt _ => obtain ⟨t, rfl⟩ := r; rfl
  | ref _ => cases r; rfl
  | ty _ => cases r; rfl
theorem RelV.inj {x y : V} {u : Value} (r : RelV x u) (q : RelV y u) : x = y := Option.some.inj (r.abs.symm.trans q.abs)
theorem Vals.inj : ∀ {xs ys : List V} {us : List Value}, Vals xs us → Vals ys us → xs = ys
  | _, _, _, .nil, .nil => rfl
  | _, _, _, .cons r t, .cons r' t' => by rw [r.inj r', Vals.inj t t']
section
variable {X : Cx} {pins : List (Addr × Obj)} {σ : St} {H : Hp} {s : Shared} {a : Addr} {xs ys : List V}
theorem SqL.of {K : PySem.W.Frag} (h : H a = some (.lst xs)) : SqL K H a xs := .inl (.inl h)
theorem SqT.of {K : PySem.W.Frag} (h : H a = some (.tup xs)) : SqT K H a xs := .inl (.inl h)
theorem Inv.list (I : Inv X pins σ H s) (h : SqL X.K H a xs) : ∃ its : List Value, Vals xs its ∧ PlainL s.heap a its.toArray ∧ xs.length ≤ sizeLine := by
  rcases h with h | ⟨o, its, n, hk, hc, hd, hs, hz, r⟩
  · obtain ⟨z, its, n, r, e⟩ := h.ok I.hok
    exact ⟨its, r, ⟨_, n, e, rfl, rfl, rfl⟩, z⟩
  · refine ⟨its.toList, r, ⟨o, n, I.kIn a o hk, hc, hd, by simpa using hs⟩, ?_⟩
    have e := r.length
    simp only [Array.length_toList] at e
    omega
theorem Inv.tuple (I : Inv X pins σ H s) (h : SqT X.K H a xs) : ∃ its : List Value, Vals xs its ∧ IsTup s.heap a its.toArray ∧ xs.length ≤ sizeLine := by
  rcases h with h | ⟨o, its, n, hk, hc, hs, hz, r⟩
  · obtain ⟨z, its, r, p⟩ := h.ok I.hok
    exact ⟨its, r, p, z⟩
  · refine ⟨its.toList, r, ⟨o, I.kIn a o hk, hc, n, by simpa using hs⟩, ?_⟩
    have e := r.length
    simp only [Array.length_toList] at e
    omega
theorem Inv.list_inj (I : Inv X pins σ H s) (h : SqL X.K H a xs) (h' : SqL X.K H a ys) : xs = ys := by
  obtain ⟨its, r, ⟨o, n, e, _, _, d⟩, _⟩ := I.list h
  obtain ⟨its', r', ⟨o', n', e', _, _, d'⟩, _⟩ := I.list h'
  rw [e] at e'; cases e'
  rw [d] at d'
  injection d' with d1 _
  have : its = its' := by simpa using congrArg Array.toList d1
  subst this
  exact r.inj r'
theorem Inv.tuple_inj (I : Inv X pins σ H s) (h : SqT X.K H a xs) (h' : SqT X.K H a ys) : xs = ys := by
  obtain ⟨its, r, ⟨o, e, _, n, d⟩, _⟩ := I.tuple h
  obtain ⟨its', r', ⟨o', e', _, n', d'⟩, _⟩ := I.tuple h'
  rw [e] at e'; cases e'
  rw [d] at d'
  injection d' with d1 _
  have : its = its' := by simpa using congrArg Array.toList d1
  subst this
  exact r.inj r'
end

/-! ### another wish about exceptions -/
abbrev Cx.wish (X : Cx) (E : Value → Shared → Prop) : Cx := { X with xe := E }
/-- no exception leaves -/
abbrev Cx.nox (X : Cx) : Cx := X.wish fun _ _ => False
theorem Cx.Ok.wish {X : Cx} (ok : X.Ok) (E : Value → Shared → Prop) : (X.wish E).Ok :=
  ⟨ok.mod, ok.kind, ok.glob, ok.blt, ok.above, ok.inj, ok.has, ok.cab, ok.hd, ok.frames, ok.stk, ok.exf, ok.bs, ok.bsz, ok.noex, ok.exfs, ok.funs, ok.frf⟩
theorem Cx.Ok.unwish {X : Cx} {E : Value → Shared → Prop} (ok : (X.wish E).Ok) : X.Ok :=
  ⟨ok.mod, ok.kind, ok.glob, ok.blt, ok.above, ok.inj, ok.has, ok.cab, ok.hd, ok.frames, ok.stk, ok.exf, ok.bs, ok.bsz, ok.noex, ok.exfs, ok.funs, ok.frf⟩
section
variable {X : Cx} {pins : List (Addr × Obj)} {σ : St} {H : Hp} {s : Shared} {E : Value → Shared → Prop}
theorem Inv.wish (I : Inv X pins σ H s) (E : Value → Shared → Prop) : Inv (X.wish E) pins σ H s := ⟨I.ok.wish E, I.os, I.bare, I.base, I.loc, I.cell, I.free, I.freeC, I.pin, I.hok, I.len⟩
theorem Inv.unwish (I : Inv (X.wish E) pins σ H s) : Inv X pins σ H s := ⟨I.ok.unwish, I.os, I.bare, I.base, I.loc, I.cell, I.free, I.freeC, I.pin, I.hok, I.len⟩
theorem SP.unwish {D : Ends} {f : Flow} {s' : Shared} (h : SP (X.wish E) pins D f s') : SP X pins D f s' := by
  cases f with
  | next => obtain ⟨σ', H', I, q⟩ := h; exact ⟨σ', H', I.unwish, q⟩
  | brk => obtain ⟨σ', H', I, q⟩ := h; exact ⟨σ', H', I.unwish, q⟩
  | cont => obtain ⟨σ', H', I, q⟩ := h; exact ⟨σ', H', I.unwish, q⟩
  | ret u => obtain ⟨v, σ', H', I, r, q⟩ := h; exact ⟨v, σ', H', I.unwish, r, q⟩
theorem PE.nox {e : Expr} {t : TE} (h : PE X.nox e t) : PE X e t := fun pins s σ H Q I hw =>
  wpAny_mono (h pins s σ H Q (I.wish _) hw) (fun _ _ ⟨v, H', I', r, q⟩ => ⟨v, H', I'.unwish, r, q⟩) fun _ _ z => False.elim z
theorem PT.nox {e : Expr} {t : TT} (h : PT X.nox e t) : PT X e t := fun pins s σ H Q I hw =>
  wpAny_mono (h pins s σ H Q (I.wish _) hw) (fun _ _ ⟨H', I', q⟩ => ⟨H', I'.unwish, q⟩) fun _ _ z => False.elim z
theorem PSs.nox {st : List Stmt} {t : TS} (h : PSs X.nox st t) : PSs X st t := fun pins s σ H D I hw =>
  wpAny_mono (h pins s σ H D (I.wish _) hw) (fun _ _ q => q.unwish) fun _ _ z => False.elim z
end

/-! ### blocks and small statements -/
section
variable {X : Cx} {st : Stmt} {rest : List Stmt} {t u : TS} {e : Expr} {te : TE} {pos : Pos}
def tNext : TS := fun D σ H => D.nx σ H
def tSeq (t u : TS) : TS := fun D σ H => t { D with nx := u D } σ H
theorem pss_nil : PSs X [] tNext := fun _ _ σ H _ I h => wpAny_execs_nil ⟨σ, H, I, h⟩
theorem pss_cons (h1 : PS X st t) (h2 : PSs X rest u) : PSs X (st :: rest) (tSeq t u) := by
  intro pins s σ H D I h
  refine wpAny_execs_cons (thn (h1 pins s σ H { D with nx := u D } I h) fun f s1 q => ?_)
  cases f with
  | next =>
    obtain ⟨σ', H', I', q⟩ := q
    exact h2 pins s1 σ' H' D I' q
  | ret v => exact q
  | brk => exact q
  | cont => exact q
theorem pss_one (h1 : PS X st t) : PSs X [st] t := by
  intro pins s σ H D I h
  refine wpAny_execs_cons (thn (h1 pins s σ H D I h) fun f s1 q => ?_)
  cases f with
  | next => exact wpAny_execs_nil q
  | ret v => exact q
  | brk => exact q
  | cont => exact q
def tBreak : TS := fun D σ H => D.bk σ H
def tCont : TS := fun D σ H => D.ct σ H
theorem ps_pass : PS X (.Pass pos) tNext := fun _ _ σ H _ I h => wpAny_Pass ⟨σ, H, I, h⟩
theorem ps_break : PS X (.Break pos) tBreak := fun _ _ σ H _ I h => wpAny_Break ⟨σ, H, I, h⟩
theorem ps_continue : PS X (.Continue pos) tCont := fun _ _ σ H _ I h => wpAny_Continue ⟨σ, H, I, h⟩
/-- in a def's body nothing is shown -/
theorem Inv.quiet {pins : List (Addr × Obj)} {σ : St} {H : Hp} {s : Shared} (I : Inv X pins σ H s) : interactive X.env = false := by simp [interactive, I.ok.kind]
/-- a docstring -/
theorem ps_doc {x j pos pos'} : PS X (.Expr (.Constant (.str x) j pos) pos') tNext := fun _ s σ H _ I h => wpAny_Expr (Calls.Constant_str (show SP X _ _ .next { s with toks := s.toks + 1 } from ⟨σ, H, I.tok _, h⟩)) I.quiet
/-- an expression whose value is dropped -/
def tDrop (te : TE) : TS := fun D σ H => te σ H fun _ H1 => D.nx σ H1
theorem ps_expr (he : PE X e te) (hs : swapsWith e none pos.line X.env = pure false := by rfl) : PS X (.Expr e pos) (tDrop te) := by
  intro pins s σ H D I h
  exact wpAny_Expr_any (thn (he pins s σ H _ I h) fun v s1 ⟨x, H1, I1, r1, q1⟩ => ⟨σ, H1, I1, q1⟩) I.quiet hs
def tRet (te : TE) : TS := fun D σ H => te σ H D.rt
theorem ps_ret (he : PE X e te) : PS X (.Return (some e) pos) (tRet te) := by
  intro pins s σ H D I h
  exact wpAny_Return_some (thn (he pins s σ H _ I h) fun v s1 ⟨x, H1, I1, r1, q1⟩ => ⟨x, σ, H1, I1, r1, q1⟩)
def tRetN : TS := fun D _ H => D.rt .non H
theorem ps_retN : PS X (.Return none pos) tRetN := fun _ _ σ H _ I h => wpAny_Return_none ⟨.non, σ, H, I, rfl, h⟩
def tIfS (c : TT) (t u : TS) : TS := fun D σ H => c σ H fun b H1 => if b = true then t D σ H1 else u D σ H1
theorem ps_if {c : Expr} {a b : List Stmt} {tc : TT} (hc : PT X c tc) (ha : PSs X a t) (hb : PSs X b u) : PS X (.If c a b pos) (tIfS tc t u) := by
  intro pins s σ H D I h
  refine wpAny_If (thn (hc pins s σ H _ I h) fun d s1 ⟨H1, I1, q1⟩ => ?_)
  cases d with
  | true => exact ha pins s1 σ H1 D I1 q1
  | false => exact hb pins s1 σ H1 D I1 q1
/-- code that the proof never comes to -/
def tNever : TS := fun _ _ _ => False
theorem ps_never : PS X st tNever := fun _ _ _ _ _ _ h => h.elim
theorem pss_never {sts : List Stmt} : PSs X sts tNever := fun _ _ _ _ _ _ h => h.elim
end

/-! ### targets -/
abbrev TG := V → St → Hp → (St → Hp → Prop) → Prop
abbrev TGs := List V → St → Hp → (St → Hp → Prop) → Prop
def PG (X : Cx) (target : Expr) (t : TG) : Prop :=
  ∀ (pins : List (Addr × Obj)) (s : Shared) (σ : St) (H : Hp) (v : V) (u : Value) (Q : St → Hp → Prop), Inv X pins σ H s → RelV v u → t v σ H Q →
    wpAny (model X.prog X.w) X.A (assign target X.env u) (fun _ s' => ∃ σ' H', Inv X pins σ' H' s' ∧ Q σ' H') X.xe s
/-- several targets, one after another -/
def PGs (X : Cx) (ts : List Expr) (t : TGs) : Prop :=
  ∀ (pins : List (Addr × Obj)) (s : Shared) (σ : St) (H : Hp) (vs : List V) (us : List Value) (Q : St → Hp → Prop), Inv X pins σ H s → Vals vs us → t vs σ H Q →
    wpAny (model X.prog X.w) X.A (assignInOrder ((assignEach ts X.env).map (·.2)) us) (fun _ s' => ∃ σ' H', Inv X pins σ' H' s' ∧ Q σ' H') X.xe s
/-- o[i] = v, by values -/
abbrev TSet := V → V → V → Hp → (Hp → Prop) → Prop
def PSet (X : Cx) (t : TSet) : Prop :=
  ∀ (pins : List (Addr × Obj)) (s : Shared) (σ : St) (H : Hp) (o i v : V) (ov iv u : Value) (Q : Hp → Prop), Inv X pins σ H s → RelV o ov → RelV i iv → RelV v u → t o i v H Q →
    wpAny (model X.prog X.w) X.A (setItem ov iv u) (fun _ s' => ∃ H', Inv X pins σ H' s' ∧ Q H') X.xe s
/-- a op= b, by values -/
abbrev TIp := V → V → Hp → VK → Prop
def PIp (X : Cx) (op : Operator) (t : TIp) : Prop :=
  ∀ (pins : List (Addr × Obj)) (s : Shared) (σ : St) (H : Hp) (x y : V) (v u : Value) (Q : VK), Inv X pins σ H s → RelV x v → RelV y u → t x y H Q →
    wpAny (model X.prog X.w) X.A (inplaceOp op v u) (EP X pins σ Q) X.xe s
section
variable {X : Cx} {pos : Pos}
def gName (i : Nat) : TG := fun v σ H Q => Q (σ.set i (some v)) H
theorem pg_name {i : Nat} {x : Str} (hN : X.N.Nodup) (hi : X.N[i]? = some x) (hx : Loc X.env.scope x) (hf : X.fn x = true ∨ X.env.scope.names.lookup x = some .local := by first | exact .inl rfl | exact .inr rfl | assumption) : PG X (.Name x pos) (gName i) := by
  intro pins s σ H v u Q I r h
  exact wpAny_assign_Name (store_ok I hN hi hx r (fun s' I' => ⟨_, H, I', h⟩) hf)
def gNil : TGs := fun vs σ H Q => vs = [] ∧ Q σ H
def gCons (t : TG) (u : TGs) : TGs := fun vs σ H Q => ∃ v r, vs = v :: r ∧ t v σ H fun σ' H' => u r σ' H' Q
theorem pgs_nil : PGs X [] gNil := by
  intro pins s σ H vs us Q I r h
  obtain ⟨e, h⟩ := h
  subst e
  cases r
  exact assignInOrder_nil ⟨σ, H, I, h⟩
theorem pgs_cons {e : Expr} {es : List Expr} {t : TG} {u : TGs} (h1 : PG X e t) (h2 : PGs X es u)
    (hs : (assignEach (e :: es) X.env).map (·.2) = assign e X.env :: (assignEach es X.env).map (·.2) := by rfl) : PGs X (e :: es) (gCons t u) := by
  intro pins s σ H vs us Q I r h
  obtain ⟨v, vr, e1, h⟩ := h
  subst e1
  cases r with
  | cons r rr =>
    rw [hs]
    refine assignInOrder_cons (thn (h1 pins s σ H _ _ _ I r h) fun _ s1 ⟨σ1, H1, I1, q1⟩ => ?_)
    exact h2 pins s1 σ1 H1 _ _ Q I1 rr q1
/-- (a, b, ..) = a tuple of that length -/
def gTup (K : PySem.W.Frag) (n : Nat) (t : TGs) : TG := fun v σ H Q => ∃ a xs, v = .ref a ∧ SqT K H a xs ∧ xs.length = n ∧ t xs σ H Q
theorem pg_tup {es : List Expr} {k : Nat} {t : TGs} {n : Nat} (hc : X.calm = true) (h : PGs X es t)
    (hn : (assignEach es X.env).length = n := by rfl) (hst : (assignEach es X.env).findIdx? (·.1) = none := by rfl) : PG X (.Tuple es k pos) (gTup X.K n t) := by
  intro pins s σ H v u Q I r hw
  obtain ⟨a, xs, e1, hq, hl, hw⟩ := hw
  subst e1
  cases r
  obtain ⟨its, rv, ht, hz⟩ := I.tuple hq
  refine assign_Tuple_tuple (I.ok.hd hc) ht (by simp [hn, ← hl, rv.length]) hst fun h' hx => ?_
  have I1 : Inv X pins σ H { s with heap := h' } := I.kept (t' := s.toks) fun b o e => hx b o (Nat.ne_of_lt (Heap.lt_size e)) e
  exact h pins _ σ H xs _ Q I1 (by simpa using rv) hw
/-- o[i] = .. -/
def gSub (to ti : TE) (t : TSet) : TG := fun v σ H Q => to σ H fun o H1 => ti σ H1 fun i H2 => t o i v H2 fun H3 => Q σ H3
theorem pg_sub {o i : Expr} {to ti : TE} {t : TSet} (ho : PE X o to) (hi : PE X i ti) (hs : PSet X t)
    (ha : ∀ v, assign (.Subscript o i pos) X.env v = (do
      let ov ← holding [v] (eval o X.env)
      let iv ← holding [v, ov] (eval i X.env)
      standAt pos
      holding [v, ov, iv] (setItem ov iv v)
      release [v, ov, iv] []) := by intro _; rfl) : PG X (.Subscript o i pos) (gSub to ti t) := by
  intro pins s σ H v u Q I r h
  rw [ha]
  refine wpAny_bind (wpAny_holding (thn (ho pins s σ H _ I h) fun ov s1 ⟨x, H1, I1, r1, q1⟩ => ?_))
  refine wpAny_bind (wpAny_holding (thn (hi pins s1 σ H1 _ I1 q1) fun iv s2 ⟨y, H2, I2, r2, q2⟩ => ?_))
  refine wpAny_bind (wpAny_standAt (wpAny_bind (wpAny_holding (thn (hs pins s2 σ H2 x y v ov iv u _ I2 r1 r2 r q2) fun _ s3 ⟨H3, I3, q3⟩ => ?_))))
  exact wpAny_release ⟨σ, H3, I3, q3⟩
/-- target = value -/
def tAsg (te : TE) (g : TG) : TS := fun D σ H => te σ H fun x H1 => g x σ H1 D.nx
theorem ps_asg {tg e : Expr} {te : TE} {g : TG} (he : PE X e te) (hg : PG X tg g) (hs : swapsWithSole [tg] e pos.line X.env = pure false := by rfl) (hw : swappedStores [tg] e X.env = pure none := by rfl)
    (h1 : (assignEach [tg] X.env).map (·.2) = [assign tg X.env] := by rfl) : PS X (.Assign [tg] e pos) (tAsg te g) := by
  intro pins s σ H D I h
  refine wpAny_Assign_stores (thn (he pins s σ H _ I h) fun v s1 ⟨x, H1, I1, r1, q1⟩ => ?_) hs hw
  rw [h1]
  exact thn (hg pins s1 σ H1 x v _ I1 r1 q1) fun _ s2 q => q
/-- name = value -/
theorem ps_set {i : Nat} {x : Str} {e : Expr} {te : TE} {pos' : Pos} (hN : X.N.Nodup) (hi : X.N[i]? = some x) (hx : Loc X.env.scope x) (he : PE X e te) (hs : swapsWith e (some (.Name x pos')) pos.line X.env = pure false := by rfl) (hf : X.fn x = true ∨ X.env.scope.names.lookup x = some .local := by first | exact .inl rfl | exact .inr rfl | assumption) :
    PS X (.Assign [.Name x pos'] e pos) (tAsg te (gName i)) := by
  intro pins s σ H D I h
  refine wpAny_Assign_Name (thn (he pins s σ H _ I h) fun v s1 ⟨y, H1, I1, r1, q1⟩ => ?_) hs
  exact store_ok I1 hN hi hx r1 (fun s2 I2 => ⟨_, H1, I2, q1⟩) hf
/-- a, b = x, y with plain local names: stored from the right; the pair itself is not tracked (the opening rows as in PyProof/Rows/TupAssign.lean:23) -/
def tPar (i j : Nat) (ta : TA) : TS := fun D σ H => ta σ H fun vs H1 => ∃ v w, vs = [v, w] ∧ D.nx ((σ.set i (some v)).set j (some w)) H1
theorem ps_par {i j : Nat} {x y : Str} {a b : Expr} {ta : TA} {px py pt : Pos} {kt k2 pt2} (hc : X.calm = true) (hN : X.N.Nodup) (hi : X.N[i]? = some x) (hj : X.N[j]? = some y) (hij : i ≠ j)
    (hx : X.env.scope.names.lookup x = some .local) (hy : X.env.scope.names.lookup y = some .local) (ha : PA X [a, b] ta)
    (hw : swappedStores [.Tuple [.Name x px, .Name y py] kt pt] (.Tuple [a, b] k2 pt2) X.env = pure (some [x, y]))
    (hs : swapsWithSole [.Tuple [.Name x px, .Name y py] kt pt] (.Tuple [a, b] k2 pt2) pos.line X.env = pure false := by rfl) :
    PS X (.Assign [.Tuple [.Name x px, .Name y py] kt pt] (.Tuple [a, b] k2 pt2) pos) (tPar i j ta) := by
  intro pins s σ H D I h
  rw [exec_Assign_arm]
  refine wpAny_bind (wpAny_standAt ?_)
  rw [hs]
  refine wpAny_bind (wpAny_pure ?_)
  rw [if_neg (by decide)]
  refine wpAny_bind (Tuple_ (thn (ha _ pins s σ H _ I h) fun us s1 ⟨vs, H1, I1, r1, q1⟩ => ?_))
  obtain ⟨v, w, e1, q1⟩ := q1
  subst e1
  obtain ⟨u1, u2, rfl, rv, rw'⟩ : ∃ u1 u2, us = [u1, u2] ∧ RelV v u1 ∧ RelV w u2 := by
    cases r1 with
    | cons p q =>
      cases q with
      | cons p' q' =>
        cases q'
        exact ⟨_, _, rfl, p, p'⟩
  refine wpAny_newObj_type ?_ (by show 2 ≤ sizeLine; decide)
  have I2 : Inv X pins σ H1 { s1 with heap := s1.heap.push { cls := .type "tuple", data := .seq [u1, u2].toArray } } := I1.kept (t' := s1.toks) fun b o e => Heap.get?_push_of_some _ e
  rw [hw]
  refine wpAny_bind (wpAny_pure ?_)
  show wpAny (model X.prog X.w) X.A (do rule "assign.swapped-stores"; let items ← unpackItems (.ref s1.heap.objs.size) 2 none; assignInOrder [fun v => bindName X.env y v, fun v => bindName X.env x v] items.reverse; pure Flow.next) _ _ _
  refine wpAny_bind (wpAny_rule (wpAny_bind (unpackItems_tuple (items := #[u1, u2]) (I.ok.hd hc) (IsTup.new s1.heap _) fun h' hx' => ?_)))
  have I3 := I2.kept (h' := h') (t' := s1.toks) fun b o e => hx' b o (Nat.ne_of_lt (Heap.lt_size e)) e
  show wpAny _ _ (assignInOrder [fun v => bindName X.env y v, fun v => bindName X.env x v] [u2, u1] >>= fun _ => pure Flow.next) _ _ _
  refine wpAny_bind (assignInOrder_cons (wpAny_bindName (store_ok I3 hN hj (.inl hy) rw' (fun s2 I4 => ?_) (.inr hy))))
  refine assignInOrder_cons (wpAny_bindName (store_ok I4 hN hi (.inl hx) rv (fun s3 I5 => assignInOrder_nil (wpAny_pure ?_)) (.inr hx)))
  rw [List.set_comm _ _ (Ne.symm hij)] at I5
  exact ⟨_, H1, I5, q1⟩
/-- name op= e -/
def tAug (i : Nat) (te : TE) (ti : TIp) : TS := fun D σ H => ∃ x, σ[i]? = some (some x) ∧ te σ H fun y H1 => ti x y H1 fun z H2 => D.nx (σ.set i (some z)) H2
theorem ps_aug {i : Nat} {x : Str} {e : Expr} {te : TE} {op : Operator} {ti : TIp} {pos' : Pos} (hN : X.N.Nodup) (hi : X.N[i]? = some x) (hx : Loc X.env.scope x) (he : PE X e te) (ho : PIp X op ti) (hf : X.fn x = true ∨ X.env.scope.names.lookup x = some .local := by first | exact .inl rfl | exact .inr rfl | assumption) :
    PS X (.AugAssign (.Name x pos') op e pos) (tAug i te ti) := by
  intro pins s σ H D I h
  obtain ⟨v, e1, h⟩ := h
  obtain ⟨m, hn, hl⟩ := I.loc
  have vis : Vis X.env.scope x := by rcases hx with k | k; exact .inl k; exact .inr (.inl k)
  obtain ⟨u, r, l⟩ := hl i x v hi e1 vis
  refine wpAny_AugAssign_Name ?_
  have go : wpAny (model X.prog X.w) X.A (eval e X.env) (fun w s₂ => wpAny (model X.prog X.w) X.A (inplaceOp op u w) (fun r s₃ => wpAny (model X.prog X.w) X.A (storeName X.env x r) (fun _ => SP X pins D .next) X.xe s₃) X.xe s₂) X.xe s := by
    refine thn (he pins s σ H _ I h) fun w s1 ⟨y, H1, I1, r1, q1⟩ => ?_
    refine thn (ho pins s1 σ H1 v y u w _ I1 r r1 q1) fun z s2 ⟨zv, H2, I2, r2, q2⟩ => ?_
    exact store_ok I2 hN hi hx r2 (fun s3 I3 => ⟨_, H2, I3, q2⟩) hf
  rcases l with ⟨hk, hm⟩ | ⟨hk, c, hc, hcell⟩
  · exact wpAny_loadName_local I.ok.kind hk hn hm go
  · rcases hk with hk | hk
    · exact wpAny_loadName_cell I.ok.kind hk hc hcell go
    · rcases hx with k | k
      · have : X.env.scope.names.lookup x = some .free := hk
        rw [k] at this; cases this
      · have : X.env.scope.names.lookup x = some .free := hk
        rw [k] at this; cases this
/-- o[i] op= e -/
def tAugS (to ti te : TE) (tget : V → V → Hp → VK → Prop) (tip : TIp) (tset : TSet) : TS := fun D σ H => to σ H fun o H1 => ti σ H1 fun i H2 => tget o i H2 fun x H3 => te σ H3 fun y H4 => tip x y H4 fun z H5 => tset o i z H5 fun H6 => D.nx σ H6
/-- o[i], by values -/
def PGet (X : Cx) (t : V → V → Hp → VK → Prop) : Prop :=
  ∀ (pins : List (Addr × Obj)) (s : Shared) (σ : St) (H : Hp) (o i : V) (ov iv : Value) (Q : VK), Inv X pins σ H s → RelV o ov → RelV i iv → t o i H Q →
    wpAny (model X.prog X.w) X.A (getItem ov iv) (EP X pins σ Q) X.xe s
theorem ps_augS {o i e : Expr} {to ti te : TE} {tget : V → V → Hp → VK → Prop} {tip : TIp} {tset : TSet} {op : Operator} {tpos : Pos} (ho : PE X o to) (hi : PE X i ti) (hg : PGet X tget) (he : PE X e te) (hp : PIp X op tip) (hs : PSet X tset)
    (ha : ∀ ov iv new, augStore i ov iv new = (do holding [new, ov, iv] (setItem ov iv new); release [new, ov, iv] []; pure .next) := by intros; rfl) : PS X (.AugAssign (.Subscript o i tpos) op e pos) (tAugS to ti te tget tip tset) := by
  intro pins s σ H D I h
  refine wpAny_AugAssign_SubscriptAny (thn (ho pins s σ H _ I h) fun ov s1 ⟨x1, H1, I1, r1, q1⟩ => ?_) ha
  refine thn (hi pins s1 σ H1 _ I1 q1) fun iv s2 ⟨x2, H2, I2, r2, q2⟩ => ?_
  refine thn (hg pins s2 σ H2 x1 x2 ov iv _ I2 r1 r2 q2) fun old s3 ⟨x3, H3, I3, r3, q3⟩ => ?_
  refine thn (he pins s3 σ H3 _ I3 q3) fun v s4 ⟨x4, H4, I4, r4, q4⟩ => ?_
  refine thn (hp pins s4 σ H4 x3 x4 old v _ I4 r3 r4 q4) fun new s5 ⟨x5, H5, I5, r5, q5⟩ => ?_
  exact thn (hs pins s5 σ H5 x1 x2 x5 ov iv new _ I5 r1 r2 r5 q5) fun _ s6 ⟨H6, I6, q6⟩ => ⟨σ, H6, I6, q6⟩
/-- ints -/
def ipI (f : Int → Int → Int) : TIp := fun x y H Q => ∃ i j, x = .int i ∧ y = .int j ∧ Q (.int (f i j)) H
theorem ip_add : PIp X .Add (ipI fun i j => i + j) := by
  intro pins s σ H x y v u Q I r1 r2 h
  obtain ⟨i, j, e1, e2, q⟩ := h
  subst e1; subst e2
  obtain ⟨t, rfl⟩ := r1
  obtain ⟨t', rfl⟩ := r2
  exact iadd_int ⟨.int _, H, I.tok _, ⟨_, rfl⟩, q⟩
theorem ip_sub : PIp X .Sub (ipI fun i j => i - j) := by
  intro pins s σ H x y v u Q I r1 r2 h
  obtain ⟨i, j, e1, e2, q⟩ := h
  subst e1; subst e2
  obtain ⟨t, rfl⟩ := r1
  obtain ⟨t', rfl⟩ := r2
  exact isub_int ⟨.int _, H, I.tok _, ⟨_, rfl⟩, q⟩
end

/-! ### while -/
section
variable {X : Cx} {pos : Pos}
/-- the invariant W with its measure -/
def tWhile (c : TT) (tb : TS) : TS := fun D σ H => ∃ W : Nat → St → Hp → Prop, (∃ m, W m σ H) ∧ ∀ m σ H, W m σ H →
  c σ H fun b H1 => if b = true then ∃ N : St → Hp → Prop, (∀ σ' H', N σ' H' → ∃ m', m' < m ∧ W m' σ' H') ∧ tb { D with nx := N, ct := N, bk := D.nx } σ H1 else D.nx σ H1
theorem ps_while {c : Expr} {body : List Stmt} {tc : TT} {tb : TS} (hp : PassesOwn (model X.prog X.w) X.A X.env X.xe) (hc : PT X c tc) (hb : PSs X body tb) : PS X (.While c body [] pos) (tWhile tc tb) := by
  intro pins s σ H D I h
  obtain ⟨W, ⟨m0, w0⟩, turn⟩ := h
  refine wpAny_While (codeAny_whileLoop (fun n s' => ∃ σ' H', Inv X pins σ' H' s' ∧ W n σ' H') ?_ m0 ⟨σ, H, I, w0⟩)
  rintro n s1 ⟨σ1, H1, I1, w1⟩
  refine wpAny_passesOwn hp (thn (hc pins s1 σ1 H1 _ I1 (turn n σ1 H1 w1)) fun b s2 ⟨H2, I2, q2⟩ => ?_)
  cases b with
  | true =>
    obtain ⟨N, hN, q2⟩ := q2
    rw [if_pos rfl]
    refine wpAny_passesOwn hp (thn (hb pins s2 σ1 H2 _ I2 q2) fun f s3 q3 => ?_)
    cases f with
    | next =>
      obtain ⟨σ3, H3, I3, n3⟩ := q3
      obtain ⟨m', hm, w3⟩ := hN σ3 H3 n3
      exact ⟨m', hm, σ3, H3, I3, w3⟩
    | cont =>
      obtain ⟨σ3, H3, I3, n3⟩ := q3
      obtain ⟨m', hm, w3⟩ := hN σ3 H3 n3
      exact ⟨m', hm, σ3, H3, I3, w3⟩
    | brk => exact q3
    | ret v => exact q3
  | false =>
    rw [if_neg Bool.false_ne_true]
    exact wpAny_execs_nil ⟨σ1, H2, I2, q2⟩
end

/-! ### what a loop or a comprehension walks -/
/-- at turn i: it yields x (the heap may grow), or it stops -/
structure It where
  go : Nat → Hp → Prop
  yld : Nat → Hp → V → Hp → Prop
  stop : Nat → Hp → Prop
/-- the iterator's own objects may turn: they are not the frame's, not pinned, younger than the entry (or a comprehension's own) -/
def FpOk (X : Cx) (pins : List (Addr × Obj)) (H : Hp) (b : Addr) : Prop :=
  H b = none ∧ b ≠ X.env.locals ∧ b ∉ X.fs ∧ (b ∈ X.ex ∨ X.s₀.heap.objs.size ≤ b) ∧ (∀ x c, X.env.cells.lookup x = some c → c ≠ b) ∧ ∀ p ∈ X.pn ++ pins, p.1 ≠ b
theorem Inv.fpOk {X : Cx} {pins : List (Addr × Obj)} {σ : St} {H H' : Hp} {s : Shared} {b : Addr} (I : Inv X pins σ H s) (hb : s.heap.objs.size ≤ b) (hn : H' b = none) : FpOk X pins H' b := by
  refine ⟨hn, Nat.ne_of_gt (Nat.lt_of_lt_of_le I.lt hb), I.nofs hb, .inr (Nat.le_trans I.sz hb), fun x c e z => ?_, fun p hp z => ?_⟩
  · obtain ⟨v, q⟩ := I.cell x c e
    exact absurd (Nat.lt_of_lt_of_le q.lt (by rw [z]; exact hb)) (Nat.lt_irrefl _)
  · exact absurd (Nat.lt_of_lt_of_le (Heap.lt_size (I.pin p hp).1) (by rw [z]; exact hb)) (Nat.lt_irrefl _)
structure Turn (P : Program) (w : World) (K : PySem.W.Frag) (tg : Expr) (J : It) (fp : List Addr) (it : Addr) (tn : Nat → Heap → Prop) : Prop where
  mem : it ∈ fp
  obj : ∀ i h, tn i h → ∀ b ∈ fp, ∃ o, h.get? b = some o ∧ ∀ v, o.data ≠ .cell v
  keep : ∀ i h h', tn i h → (∀ b ∈ fp, ∀ o, h.get? b = some o → h'.get? b = some o) → tn i h'
  item : ∀ (X : Cx), X.prog = P → X.w = w → X.K = K → X.calm = true → ∀ (i : Nat) (pins : List (Addr × Obj)) (s : Shared) (σ : St) (H : Hp) (E : Value → Shared → Prop), Inv X pins σ H s → (∀ b ∈ fp, FpOk X pins H b) → tn i s.heap → J.go i H →
    wpAny (model P w) X.A (pyNext (.ref it)) (fun r s1 => ∃ u, r = some u ∧
      wpAny (model P w) X.A (letOwnedTupleGo tg (.ref it) u) (fun _ s2 => ∃ x H', Inv X pins σ H' s2 ∧ RelV x u ∧ J.yld i H x H' ∧ tn (i + 1) s2.heap ∧ ∀ b ∈ fp, H' b = none) E s1) E s
  done : ∀ (X : Cx), X.prog = P → X.w = w → X.K = K → X.calm = true → ∀ (i : Nat) (pins : List (Addr × Obj)) (s : Shared) (σ : St) (H : Hp) (E : Value → Shared → Prop), Inv X pins σ H s → (∀ b ∈ fp, FpOk X pins H b) → tn i s.heap → J.stop i H →
    wpAny (model P w) X.A (pyNext (.ref it)) (fun r s1 => r = none ∧ Inv X pins σ H s1) E s
  self : ∀ (A : Around) (i : Nat) (s : Shared) (Q : Value → Shared → Prop) (E : Value → Shared → Prop), tn i s.heap → Q (.ref it) s → wpAny (model P w) A (pyIter (.ref it)) Q E s
abbrev TI := St → Hp → (It → Hp → Prop) → Prop
/-- an iterator has come -/
def PIE (X : Cx) (pins : List (Addr × Obj)) (σ : St) (tg : Expr) (R : It → Hp → Prop) (itv : Value) (s2 : Shared) : Prop :=
  ∃ (it : Addr) (fp : List Addr) (tn : Nat → Heap → Prop) (J : It) (H' : Hp), itv = .ref it ∧ Inv X pins σ H' s2 ∧ Turn X.prog X.w X.K tg J fp it tn ∧ tn 0 s2.heap ∧ (∀ b ∈ fp, FpOk X pins H' b) ∧ R J H'
def PI (X : Cx) (tg iter : Expr) (wi : TI) : Prop :=
  ∀ (pins : List (Addr × Obj)) (s : Shared) (σ : St) (H : Hp) (R : It → Hp → Prop), Inv X pins σ H s → wi σ H R →
    wpAny (model X.prog X.w) X.A (eval iter X.env) (fun v s1 => wpAny (model X.prog X.w) X.A (pyIter v) (PIE X pins σ tg R) X.xe s1) X.xe s

/-- the step ahead of the store is nothing for an iterator that keeps no tuple -/
theorem go_of {M : Model} {A : Around} {E : Value → Shared → Prop} {s : Shared} {tg : Expr} {it : Addr} {u : Value} {o : Obj} {n : String} {vs : Array Value} {Q : Unit → Shared → Prop} (ho : s.heap.get? it = some o) (hc : o.cls = .type n) (hd : o.data = .fields vs)
    (hn : ["enumerate", "zip", "dict_itemiterator", "dict_reverseitemiterator", "odict_iterator", "itertools.zip_longest", "itertools.pairwise"].contains n = false) (hQ : Q () s) : wpAny M A (letOwnedTupleGo tg (.ref it) u) Q E s := by
  unfold letOwnedTupleGo
  cases tg <;> first
    | exact wpAny_pure hQ
    | (cases u <;> first
        | exact wpAny_pure hQ
        | (refine wpAny_bind (wpAny_load ho ?_)
           rw [hc, hd]
           show wpAny M A (if (["enumerate", "zip", "dict_itemiterator", "dict_reverseitemiterator", "odict_iterator", "itertools.zip_longest", "itertools.pairwise"].contains n && vs[0]? == some (rawInt _)) = true then _ else _) Q E s
           rw [if_neg (by intro h; rw [hn, Bool.false_and] at h; cases h)]
           exact wpAny_pure hQ))

/-- the list at a, as it stands at each turn (a loop may append to it) -/
def Itl (K : PySem.W.Frag) (a : Addr) : It :=
  ⟨fun i H => ∃ xs x, SqL K H a xs ∧ xs[i]? = some x, fun i H x H' => H' = H ∧ ∀ xs, SqL K H a xs → xs[i]? = some x, fun i H => ∃ xs, SqL K H a xs ∧ xs.length ≤ i⟩
def Itt (K : PySem.W.Frag) (a : Addr) : It :=
  ⟨fun i H => ∃ xs x, SqT K H a xs ∧ xs[i]? = some x, fun i H x H' => H' = H ∧ ∀ xs, SqT K H a xs → xs[i]? = some x, fun i H => ∃ xs, SqT K H a xs ∧ xs.length ≤ i⟩
/-- lo, lo + 1, .. (n of them) -/
def Itr (lo : Int) (n : Nat) : It := ⟨fun i _ => i < n, fun i H x H' => H' = H ∧ x = .int (lo + i), fun i _ => n ≤ i⟩
theorem turn_list {P : Program} {w : World} {K : PySem.W.Frag} {tg : Expr} (a it : Addr) : Turn P w K tg (Itl K a) [it] it (fun i h => h.IsListIter it a i) where
  mem := by simp
  obj := fun i h st b hb => by
    have e : b = it := by simpa using hb
    subst e
    obtain ⟨o, e, c, d⟩ := st
    exact ⟨o, e, fun v z => by rw [d] at z; cases z⟩
  keep := fun i h h' st k => st.at fun o e => k it (by simp) o e
  item := by
    intro X hP hw hK hc i pins s σ H E I hf st hg
    subst hP hw hK
    obtain ⟨xs, x, hq, hx⟩ := hg
    obtain ⟨its, rv, p, hz⟩ := I.list hq
    obtain ⟨u, hu, ru⟩ := rv.get hx
    obtain ⟨f0, f1, f2, f3, f4, f5⟩ := hf it (by simp)
    refine wpAny_pyNext_list_item st p.isList (x := u) (by simpa using hu) fun h' st' sb => ?_
    have I1 : Inv X pins σ H { s with heap := h' } := I.turned (t' := s.toks) (fun b o hb e => (sb.2 b hb).trans e) f0 f1 f3 f4 f5
    obtain ⟨o, e, c, d⟩ := id st'
    exact ⟨u, rfl, go_of (s := { s with heap := h' }) e c d (by decide) ⟨x, H, I1, ru, ⟨rfl, fun ys hy => by rw [I.list_inj hy hq]; exact hx⟩, st', fun b hb => (hf b hb).1⟩⟩
  done := by
    intro X hP hw hK hc i pins s σ H E I hf st hg
    subst hP hw hK
    obtain ⟨xs, hq, hx⟩ := hg
    obtain ⟨its, rv, p, hz⟩ := I.list hq
    obtain ⟨f0, f1, f2, f3, f4, f5⟩ := hf it (by simp)
    have hl := rv.length
    exact wpAny_pyNext_list_end (I.ok.hd hc) st p.isList (by simp; omega) fun h' eb => ⟨rfl, I.turned (t' := s.toks) (fun b o hb e => eb b o hb e) f0 f1 f3 f4 f5⟩
  self := fun _ _ _ _ _ st h => wpAny_pyIter_listiter st h
theorem turn_tuple {P : Program} {w : World} {K : PySem.W.Frag} {tg : Expr} (a it : Addr) : Turn P w K tg (Itt K a) [it] it (fun i h => h.IsTupleIter it a i) where
  mem := by simp
  obj := fun i h st b hb => by
    have e : b = it := by simpa using hb
    subst e
    obtain ⟨o, e, c, d⟩ := st
    exact ⟨o, e, fun v z => by rw [d] at z; cases z⟩
  keep := fun i h h' st k => st.at fun o e => k it (by simp) o e
  item := by
    intro X hP hw hK hc i pins s σ H E I hf st hg
    subst hP hw hK
    obtain ⟨xs, x, hq, hx⟩ := hg
    obtain ⟨its, rv, p, hz⟩ := I.tuple hq
    obtain ⟨u, hu, ru⟩ := rv.get hx
    obtain ⟨f0, f1, f2, f3, f4, f5⟩ := hf it (by simp)
    refine wpAny_pyNext_tuple_item st (show s.heap.IsTuple a its.toArray from p) (x := u) (by simpa using hu) fun h' st' sb => ?_
    have I1 : Inv X pins σ H { s with heap := h' } := I.turned (t' := s.toks) (fun b o hb e => (sb.2 b hb).trans e) f0 f1 f3 f4 f5
    obtain ⟨o, e, c, d⟩ := id st'
    exact ⟨u, rfl, go_of (s := { s with heap := h' }) e c d (by decide) ⟨x, H, I1, ru, ⟨rfl, fun ys hy => by rw [I.tuple_inj hy hq]; exact hx⟩, st', fun b hb => (hf b hb).1⟩⟩
  done := by
    intro X hP hw hK hc i pins s σ H E I hf st hg
    subst hP hw hK
    obtain ⟨xs, hq, hx⟩ := hg
    obtain ⟨its, rv, p, hz⟩ := I.tuple hq
    obtain ⟨f0, f1, f2, f3, f4, f5⟩ := hf it (by simp)
    have hl := rv.length
    exact wpAny_pyNext_tuple_end (I.ok.hd hc) st (show s.heap.IsTuple a its.toArray from p) (by simp; omega) fun h' eb => ⟨rfl, I.turned (t' := s.toks) (fun b o hb e => eb b o hb e) f0 f1 f3 f4 f5⟩
  self := fun _ _ _ _ _ st h => wpAny_pyIter_tupleiter st h
theorem turn_range {P : Program} {w : World} {K : PySem.W.Frag} {tg : Expr} (it : Addr) (lo : Int) (n : Nat) : Turn P w K tg (Itr lo n) [it] it (fun i h => IsRangeIter h it (lo + (i : Nat) * 1) ((n : Int) - (i : Nat)) 1) where
  mem := by simp
  obj := fun i h st b hb => by
    have e : b = it := by simpa using hb
    subst e
    exact ⟨_, st, fun v z => by
      have z' : Data.fields _ = Data.cell v := z
      cases z'⟩
  keep := fun i h h' st k => k it (by simp) _ st
  item := by
    intro X hP hw hK hc i pins s σ H E I hf st hg
    subst hP hw hK
    obtain ⟨f0, f1, f2, f3, f4, f5⟩ := hf it (by simp)
    have W := Walks.range (prog := X.prog) (w := X.w) (I.ok.hd hc) it lo 1 n
    refine W.item i s _ _ hg st fun v h' tk hv st' kk => ?_
    obtain ⟨t, rfl⟩ := hv
    have I1 : Inv X pins σ H { s with heap := h', toks := tk } := I.turned (fun b o hb e => kk b o (by simpa using hb) e) f0 f1 f3 f4 f5
    refine ⟨_, rfl, go_of (s := { s with heap := h', toks := tk }) (n := "range_iterator") st' rfl rfl (by decide) ⟨.int (lo + i), H, I1, ⟨t, ?_⟩, ⟨rfl, rfl⟩, st', fun b hb => (hf b hb).1⟩⟩
    rw [Int.mul_one]
  done := by
    intro X hP hw hK hc i pins s σ H E I hf st hg
    subst hP hw hK
    obtain ⟨f0, f1, f2, f3, f4, f5⟩ := hf it (by simp)
    exact wpAny_pyNext_range_end (I.ok.hd hc) st (by have : n ≤ i := hg; omega) fun h' eb => ⟨rfl, I.turned (t' := s.toks) (fun b o hb e => eb b o hb e) f0 f1 f3 f4 f5⟩
  self := fun _ _ _ _ _ st h => wpAny_pyIter_rangeiter st h
end L2

namespace L2
open PySem PySem.Spec PyProof.Rows
section
variable {X : Cx} {tg : Expr}
def iList (K : PySem.W.Frag) (tl : TE) : TI := fun σ H R => tl σ H fun x H1 => ∃ a, x = .ref a ∧ (∃ xs, SqL K H1 a xs) ∧ R (Itl K a) H1
def iTup (K : PySem.W.Frag) (tl : TE) : TI := fun σ H R => tl σ H fun x H1 => ∃ a, x = .ref a ∧ (∃ xs, SqT K H1 a xs) ∧ R (Itt K a) H1
theorem pi_list {l : Expr} {tl : TE} (hl : PE X l tl) : PI X tg l (iList X.K tl) := by
  intro pins s σ H R I h
  refine thn (hl pins s σ H _ I h) fun v s1 ⟨x, H1, I1, r1, q1⟩ => ?_
  obtain ⟨a, e, ⟨xs, hq⟩, q⟩ := q1
  subst e
  cases r1
  obtain ⟨its, rv, p, hz⟩ := I1.list hq
  refine wpAny_pyIter_list p.isList ?_
  refine ⟨s1.heap.objs.size, [s1.heap.objs.size], _, _, H1, rfl, I1.kept (t' := s1.toks) fun b o e => Heap.get?_push_of_some _ e, turn_list a _, ⟨_, Heap.get?_push_size _ rfl, rfl, rfl⟩, fun b hb => ?_, q⟩
  have e : b = s1.heap.objs.size := by simpa using hb
  subst e
  exact I1.fpOk (Nat.le_refl _) (I1.hok.fresh (Nat.le_refl _))
theorem pi_tup {l : Expr} {tl : TE} (hl : PE X l tl) : PI X tg l (iTup X.K tl) := by
  intro pins s σ H R I h
  refine thn (hl pins s σ H _ I h) fun v s1 ⟨x, H1, I1, r1, q1⟩ => ?_
  obtain ⟨a, e, ⟨xs, hq⟩, q⟩ := q1
  subst e
  cases r1
  obtain ⟨its, rv, p, hz⟩ := I1.tuple hq
  refine wpAny_pyIter_tuple (show s1.heap.IsTuple a its.toArray from p) ?_
  refine ⟨s1.heap.objs.size, [s1.heap.objs.size], _, _, H1, rfl, I1.kept (t' := s1.toks) fun b o e => Heap.get?_push_of_some _ e, turn_tuple a _, ⟨_, Heap.get?_push_size _ rfl, rfl, rfl⟩, fun b hb => ?_, q⟩
  have e : b = s1.heap.objs.size := by simpa using hb
  subst e
  exact I1.fpOk (Nat.le_refl _) (I1.hok.fresh (Nat.le_refl _))
/-- a range object just made, walked -/
theorem range_it {pins : List (Addr × Obj)} {σ : St} {H : Hp} {s : Shared} {R : It → Hp → Prop} {E : Value → Shared → Prop} {lo hi : Int} {t u v : Tok} {tk : Nat} (I : Inv X pins σ H s) (h1 : -(2 ^ 62) ≤ lo) (h2 : lo < 2 ^ 62) (h3 : -(2 ^ 62) ≤ hi) (h4 : hi < 2 ^ 62)
    (q : R (Itr lo (hi - lo).toNat) H) : wpAny (model X.prog X.w) X.A (pyIter (.ref s.heap.objs.size)) (PIE X pins σ tg R) E { s with heap := s.heap.push { cls := .type "range", data := .fields #[.int lo t, .int hi u, .int 1 v] }, toks := tk } := by
  refine wpAny_pyIter_range (IsRange.new ..) (small_one h1 h2 h3 h4) ?_
  have I1 : Inv X pins σ H { s with heap := s.heap.push { cls := .type "range", data := .fields #[.int lo t, .int hi u, .int 1 v] }, toks := tk } := I.kept fun b o e => Heap.get?_push_of_some _ e
  refine ⟨(s.heap.push { cls := .type "range", data := .fields #[.int lo t, .int hi u, .int 1 v] }).objs.size, [(s.heap.push { cls := .type "range", data := .fields #[.int lo t, .int hi u, .int 1 v] }).objs.size], _, _, H, rfl,
    I1.kept (t' := tk) fun b o e => Heap.get?_push_of_some _ e, turn_range _ lo (hi - lo).toNat, ?_, fun b hb => ?_, q⟩
  · have e1 : lo + ((0 : Nat) : Int) * 1 = lo := by simp
    have e2 : (((hi - lo).toNat : Nat) : Int) - ((0 : Nat) : Int) = Builtin.Range.rangeSize lo hi 1 := by rw [rangeSize_one]; split <;> omega
    show IsRangeIter _ _ (lo + ((0 : Nat) : Int) * 1) ((((hi - lo).toNat : Nat) : Int) - ((0 : Nat) : Int)) 1
    rw [e1, e2]
    exact Heap.get?_push_size _ rfl
  · have e : b = (s.heap.push { cls := .type "range", data := .fields #[.int lo t, .int hi u, .int 1 v] }).objs.size := by simpa using hb
    subst e
    exact I1.fpOk (Nat.le_refl _) (I1.hok.fresh (Nat.le_refl _))
def iRng1 (ta : TA) : TI := fun σ H R => ta σ H fun vs H1 => ∃ j : Int, vs = [.int j] ∧ -(2 ^ 62) ≤ j ∧ j < 2 ^ 62 ∧ R (Itr 0 j.toNat) H1
def iRng2 (ta : TA) : TI := fun σ H R => ta σ H fun vs H1 => ∃ i j : Int, vs = [.int i, .int j] ∧ (-(2 ^ 62) ≤ i ∧ i < 2 ^ 62 ∧ -(2 ^ 62) ≤ j ∧ j < 2 ^ 62) ∧ R (Itr i (j - i).toNat) H1
theorem pi_range1 {a : Expr} {ta : TA} {p pos : Pos} (hg : Gl X "range") (hm : X.mg "range" = none) (ha : PA X [a] ta) (hs : starEach [a] X.env = [(false, eval a X.env)] := by rfl) : PI X tg (.Call (.Name "range" p) [a] [] pos) (iRng1 ta) := by
  intro pins s σ H R I h
  refine Call_ (ld_blt I hg hm boot_range (PyProof.Rows.callWith_type1 (thn (ha pos pins s σ H _ I h) fun us s1 ⟨vs, H1, I1, r1, q1⟩ => ?_) hs rfl))
  obtain ⟨j, e, q1, q2, q⟩ := q1
  subst e
  cases r1 with
  | cons r rr =>
    cases rr
    obtain ⟨t, rfl⟩ := r
    exact call_range_1 (range_it I1 (by omega) (by omega) q1 q2 (by simpa using q))
theorem pi_range2 {a b : Expr} {ta : TA} {p pos : Pos} (hg : Gl X "range") (hm : X.mg "range" = none) (ha : PA X [a, b] ta) (hs : starEach [a, b] X.env = [(false, eval a X.env), (false, eval b X.env)] := by rfl) (hs2 : starEach [b] X.env = [(false, eval b X.env)] := by rfl) :
    PI X tg (.Call (.Name "range" p) [a, b] [] pos) (iRng2 ta) := by
  intro pins s σ H R I h
  refine Call_ (ld_blt I hg hm boot_range (PyProof.Rows.callWith_type1 (thn (ha pos pins s σ H _ I h) fun us s1 ⟨vs, H1, I1, r1, q1⟩ => ?_) (by rw [hs, hs2]) (by rw [hs2]; rfl)))
  obtain ⟨i, j, e, ⟨q1, q2, q3, q4⟩, q⟩ := q1
  subst e
  cases r1 with
  | cons r rr =>
    cases rr with
    | cons r' rr =>
      cases rr
      obtain ⟨t, rfl⟩ := r
      obtain ⟨t', rfl⟩ := r'
      exact call_range_2 (range_it I1 q1 q2 q3 q4 q)

/-! ### for -/
/-- W: the invariant by the turn and a measure; N: what the body is to reach -/
def tFor (wi : TI) (g : TG) (tb : TS) : TS := fun D σ H => wi σ H fun J H1 => ∃ W : Nat → Nat → St → Hp → Prop, (∃ m, W 0 m σ H1) ∧ ∀ i m σ H, W i m σ H →
  (J.stop i H ∧ D.nx σ H) ∨ (J.go i H ∧ ∃ N : St → Hp → Prop, (∀ σ' H', N σ' H' → ∃ m', m' < m ∧ W (i + 1) m' σ' H') ∧ ∀ x H', J.yld i H x H' → g x σ H' fun σ2 H2 => tb { D with nx := N, ct := N, bk := D.nx } σ2 H2)
/-- the records at fp as they stand -/
def pinsAt (fp : List Addr) (h : Heap) : List (Addr × Obj) := fp.filterMap fun b => (h.get? b).map fun o => (b, o)
theorem mem_pinsAt {fp : List Addr} {h : Heap} {b : Addr} {o : Obj} (hb : b ∈ fp) (e : h.get? b = some o) : (b, o) ∈ pinsAt fp h := List.mem_filterMap.mpr ⟨b, hb, by rw [e]; rfl⟩
theorem of_pinsAt {fp : List Addr} {h : Heap} {p : Addr × Obj} (hp : p ∈ pinsAt fp h) : p.1 ∈ fp ∧ h.get? p.1 = some p.2 := by
  obtain ⟨b, hb, e⟩ := List.mem_filterMap.mp hp
  cases q : h.get? b with
  | none => rw [q] at e; cases e
  | some o =>
    rw [q] at e
    have e' : (b, o) = p := Option.some.inj e
    subst e'
    exact ⟨hb, q⟩
theorem Inv.pinned {pins : List (Addr × Obj)} {σ : St} {H : Hp} {s : Shared} {fp : List Addr} (I : Inv X pins σ H s) (hf : ∀ b ∈ fp, FpOk X pins H b) (ho : ∀ b ∈ fp, ∃ o, s.heap.get? b = some o ∧ ∀ v, o.data ≠ .cell v) : Inv X (pins ++ pinsAt fp s.heap) σ H s :=
  I.pins_of fun p hp => (List.mem_append.mp hp).elim (fun z => I.pin p (List.mem_append_right _ z)) fun z => by
    obtain ⟨hb, e⟩ := of_pinsAt z
    obtain ⟨f0, f1, f2, _⟩ := hf p.1 hb
    obtain ⟨o, e', d⟩ := ho p.1 hb
    rw [e] at e'; cases e'
    exact ⟨e, f0, f1, f2, d⟩
theorem Inv.unpinned {pins pl : List (Addr × Obj)} {σ : St} {H : Hp} {s : Shared} (I : Inv X (pins ++ pl) σ H s) : Inv X pins σ H s := I.pins_of fun p hp => I.pin p (List.mem_append_right _ (List.mem_append_left _ hp))
theorem ps_for {iter : Expr} {body : List Stmt} {wi : TI} {g : TG} {tb : TS} {pos : Pos} (hp : PassesOwn (model X.prog X.w) X.A X.env X.xe) (hc : X.calm = true) (hi : PI X tg iter wi) (hg : PG X tg g) (hb : PSs X body tb)
    (hs : ∀ x, foldedSetIterable iter X.env x = pure x := by intro _; rfl) : PS X (.For tg iter body [] pos) (tFor wi g tb) := by
  intro pins s σ H D I h
  refine wpAny_For (thn (hi pins s σ H _ I h) fun v s1 h1 => thn h1 fun itv s2 h2 => ?_) hs
  obtain ⟨it, fp, tn, J, H2, e, I2, T, st2, f2, W, ⟨m0, w0⟩, turn⟩ := h2
  subst e
  -- what stays true of the iterator's objects through the loop
  have stat : ∀ {H' : Hp}, (∀ b ∈ fp, H' b = none) → ∀ b ∈ fp, FpOk X pins H' b := fun hn b hb => ⟨hn b hb, (f2 b hb).2⟩
  refine codeAny_forLoop_any (fun n s' => ∃ i σ' H', Inv X pins σ' H' s' ∧ tn i s'.heap ∧ (∀ b ∈ fp, H' b = none) ∧ W i n σ' H') ?_ m0 ⟨0, σ, H2, I2, st2, fun b hb => (f2 b hb).1, w0⟩
  rintro n s3 ⟨i, σ3, H3, I3, st3, fr3, w3⟩
  rcases turn i n σ3 H3 w3 with ⟨stop, qn⟩ | ⟨go, N, hN, step⟩
  · refine wpAny_passesOwn hp (thn (T.done X rfl rfl rfl hc i pins s3 σ3 H3 X.xe I3 (stat fr3) st3 stop) fun r s4 ⟨hr, I4⟩ => ?_)
    subst hr
    exact wpAny_execs_nil ⟨σ3, H3, I4, qn⟩
  · refine wpAny_passesOwn hp (thn (T.item X rfl rfl rfl hc i pins s3 σ3 H3 X.xe I3 (stat fr3) st3 go) fun r s4 ⟨u, hr, h4⟩ => ?_)
    subst hr
    refine wpAny_passesOwn hp (thn h4 fun _ s5 ⟨x, H5, I5, r5, y5, st5, fr5⟩ => ?_)
    have I5' := I5.pinned (stat fr5) (T.obj _ _ st5)
    refine wpAny_passesOwn hp (thn (hg _ s5 σ3 H5 x u _ I5' r5 (step x H5 y5)) fun _ s6 ⟨σ6, H6, I6, q6⟩ => ?_)
    refine wpAny_passesOwn hp (thn (hb _ s6 σ6 H6 _ I6 q6) fun f s7 q7 => ?_)
    have again : ∀ {σ7 : St} {H7 : Hp}, Inv X (pins ++ pinsAt fp s5.heap) σ7 H7 s7 → N σ7 H7 → ∃ m, m < n ∧ ∃ i σ' H', Inv X pins σ' H' s7 ∧ tn i s7.heap ∧ (∀ b ∈ fp, H' b = none) ∧ W i m σ' H' := fun {σ7 H7} I7 n7 => by
      obtain ⟨m', hm, w7⟩ := hN σ7 H7 n7
      refine ⟨m', hm, i + 1, σ7, H7, I7.unpinned, T.keep _ _ _ st5 fun b hb o e => (I7.pin (b, o) (List.mem_append_right _ (List.mem_append_right _ (mem_pinsAt hb e)))).1, fun b hb => ?_, w7⟩
      obtain ⟨o, e, d⟩ := T.obj _ _ st5 b hb
      exact (I7.pin (b, o) (List.mem_append_right _ (List.mem_append_right _ (mem_pinsAt hb e)))).2.1
    cases f with
    | next => obtain ⟨σ7, H7, I7, n7⟩ := q7; exact again I7 n7
    | cont => obtain ⟨σ7, H7, I7, n7⟩ := q7; exact again I7 n7
    | brk => obtain ⟨σ7, H7, I7, q7⟩ := q7; exact ⟨σ7, H7, I7.unpinned, q7⟩
    | ret v => obtain ⟨x7, σ7, H7, I7, r7, q7⟩ := q7; exact ⟨x7, σ7, H7, I7.unpinned, r7, q7⟩
end

/-! ### the forms one uses -/
/-- over a list that the body leaves as it is -/
theorem for_list {K : PySem.W.Frag} {a : Addr} {xs : List V} {g : TG} {tb : TS} {D : Ends} {σ : St} {H : Hp} (Pv : Nat → St → Hp → Prop) (h0 : Pv 0 σ H) (hl : ∀ i σ H, i ≤ xs.length → Pv i σ H → SqL K H a xs)
    (hs : ∀ i x σ H, xs[i]? = some x → Pv i σ H → g x σ H fun σ2 H2 => tb { D with nx := Pv (i + 1), ct := Pv (i + 1), bk := D.nx } σ2 H2) (hd : ∀ σ H, Pv xs.length σ H → D.nx σ H) :
    ∃ W : Nat → Nat → St → Hp → Prop, (∃ m, W 0 m σ H) ∧ ∀ i m σ H, W i m σ H →
      ((Itl K a).stop i H ∧ D.nx σ H) ∨ ((Itl K a).go i H ∧ ∃ N : St → Hp → Prop, (∀ σ' H', N σ' H' → ∃ m', m' < m ∧ W (i + 1) m' σ' H') ∧ ∀ x H', (Itl K a).yld i H x H' → g x σ H' fun σ2 H2 => tb { D with nx := N, ct := N, bk := D.nx } σ2 H2) := by
  refine ⟨fun i m σ H => m = xs.length - i ∧ i ≤ xs.length ∧ Pv i σ H, ⟨xs.length, by simp, Nat.zero_le _, h0⟩, ?_⟩
  rintro i m σ H ⟨rfl, hi, p⟩
  have q := hl i σ H hi p
  by_cases hlt : i < xs.length
  · refine .inr ⟨⟨xs, xs[i], q, by simp [hlt]⟩, Pv (i + 1), fun σ' H' p' => ⟨xs.length - (i + 1), by omega, rfl, hlt, p'⟩, fun x H' y => ?_⟩
    obtain ⟨e, y⟩ := y
    subst e
    exact hs i x σ _ (y xs q) p
  · have e : i = xs.length := by omega
    subst e
    exact .inl ⟨⟨xs, q, Nat.le_refl _⟩, hd σ H p⟩
theorem for_tup {K : PySem.W.Frag} {a : Addr} {xs : List V} {g : TG} {tb : TS} {D : Ends} {σ : St} {H : Hp} (Pv : Nat → St → Hp → Prop) (h0 : Pv 0 σ H) (hl : ∀ i σ H, i ≤ xs.length → Pv i σ H → SqT K H a xs)
    (hs : ∀ i x σ H, xs[i]? = some x → Pv i σ H → g x σ H fun σ2 H2 => tb { D with nx := Pv (i + 1), ct := Pv (i + 1), bk := D.nx } σ2 H2) (hd : ∀ σ H, Pv xs.length σ H → D.nx σ H) :
    ∃ W : Nat → Nat → St → Hp → Prop, (∃ m, W 0 m σ H) ∧ ∀ i m σ H, W i m σ H →
      ((Itt K a).stop i H ∧ D.nx σ H) ∨ ((Itt K a).go i H ∧ ∃ N : St → Hp → Prop, (∀ σ' H', N σ' H' → ∃ m', m' < m ∧ W (i + 1) m' σ' H') ∧ ∀ x H', (Itt K a).yld i H x H' → g x σ H' fun σ2 H2 => tb { D with nx := N, ct := N, bk := D.nx } σ2 H2) := by
  refine ⟨fun i m σ H => m = xs.length - i ∧ i ≤ xs.length ∧ Pv i σ H, ⟨xs.length, by simp, Nat.zero_le _, h0⟩, ?_⟩
  rintro i m σ H ⟨rfl, hi, p⟩
  have q := hl i σ H hi p
  by_cases hlt : i < xs.length
  · refine .inr ⟨⟨xs, xs[i], q, by simp [hlt]⟩, Pv (i + 1), fun σ' H' p' => ⟨xs.length - (i + 1), by omega, rfl, hlt, p'⟩, fun x H' y => ?_⟩
    obtain ⟨e, y⟩ := y
    subst e
    exact hs i x σ _ (y xs q) p
  · have e : i = xs.length := by omega
    subst e
    exact .inl ⟨⟨xs, q, Nat.le_refl _⟩, hd σ H p⟩
theorem for_range {lo : Int} {n : Nat} {g : TG} {tb : TS} {D : Ends} {σ : St} {H : Hp} (Pv : Nat → St → Hp → Prop) (h0 : Pv 0 σ H)
    (hs : ∀ i σ H, i < n → Pv i σ H → g (.int (lo + i)) σ H fun σ2 H2 => tb { D with nx := Pv (i + 1), ct := Pv (i + 1), bk := D.nx } σ2 H2) (hd : ∀ σ H, Pv n σ H → D.nx σ H) :
    ∃ W : Nat → Nat → St → Hp → Prop, (∃ m, W 0 m σ H) ∧ ∀ i m σ H, W i m σ H →
      ((Itr lo n).stop i H ∧ D.nx σ H) ∨ ((Itr lo n).go i H ∧ ∃ N : St → Hp → Prop, (∀ σ' H', N σ' H' → ∃ m', m' < m ∧ W (i + 1) m' σ' H') ∧ ∀ x H', (Itr lo n).yld i H x H' → g x σ H' fun σ2 H2 => tb { D with nx := N, ct := N, bk := D.nx } σ2 H2) := by
  refine ⟨fun i m σ H => m = n - i ∧ i ≤ n ∧ Pv i σ H, ⟨n, by simp, Nat.zero_le _, h0⟩, ?_⟩
  rintro i m σ H ⟨rfl, hi, p⟩
  by_cases hlt : i < n
  · refine .inr ⟨hlt, Pv (i + 1), fun σ' H' p' => ⟨n - (i + 1), by omega, rfl, hlt, p'⟩, fun x H' y => ?_⟩
    obtain ⟨e, y⟩ := y
    subst e y
    exact hs i σ _ hlt p
  · have e : i = n := by omega
    subst e
    exact .inl ⟨Nat.le_refl _, hd σ H p⟩
/-- while, by a word and a measure of the state -/
theorem while_by {c : TT} {tb : TS} {D : Ends} {σ : St} {H : Hp} (Pv : St → Hp → Prop) (μ : St → Hp → Nat) (h0 : Pv σ H)
    (hs : ∀ σ H, Pv σ H → c σ H fun b H1 => if b = true then tb { D with nx := fun σ' H' => Pv σ' H' ∧ μ σ' H' < μ σ H, ct := fun σ' H' => Pv σ' H' ∧ μ σ' H' < μ σ H, bk := D.nx } σ H1 else D.nx σ H1)
    (mono : ∀ σ H Q Q', (∀ b H1, Q b H1 → Q' b H1) → c σ H Q → c σ H Q') : tWhile c tb D σ H := by
  refine ⟨fun m σ H => m = μ σ H ∧ Pv σ H, ⟨_, rfl, h0⟩, ?_⟩
  rintro m σ H ⟨rfl, p⟩
  refine mono σ H _ _ (fun b H1 q => ?_) (hs σ H p)
  cases b with
  | true => exact ⟨_, fun σ' H' ⟨p', l⟩ => ⟨_, l, rfl, p'⟩, q⟩
  | false => exact q
end L2

namespace L2
open PySem PySem.Spec PyProof.Rows

abbrev R2 := V → V → Hp → VK → Prop
/-- a two-place operation on values: f is binaryOp op, inplaceOp op or compareOp op -/
def OpR (X : Cx) (f : Value → Value → Sem Value) (r : R2) : Prop :=
  ∀ (pins : List (Addr × Obj)) (s : Shared) (σ : St) (H : Hp) (x y : V) (v u : Value) (Q : VK), Inv X pins σ H s → RelV x v → RelV y u → r x y H Q →
    wpAny (model X.prog X.w) X.A (f v u) (EP X pins σ Q) X.xe s
/-- a one-place operation -/
def UnR (X : Cx) (f : Value → Sem Value) (r : V → Hp → VK → Prop) : Prop :=
  ∀ (pins : List (Addr × Obj)) (s : Shared) (σ : St) (H : Hp) (x : V) (v : Value) (Q : VK), Inv X pins σ H s → RelV x v → r x H Q →
    wpAny (model X.prog X.w) X.A (f v) (EP X pins σ Q) X.xe s
/-- a call of a value that is known (a builtin, a type) with values -/
def CallR (X : Cx) (f : Value) (r : List V → Hp → VK → Prop) : Prop :=
  ∀ (pins : List (Addr × Obj)) (s : Shared) (σ : St) (H : Hp) (xs : List V) (us : List Value) (Q : VK), Inv X pins σ H s → Vals xs us → r xs H Q →
    wpAny (model X.prog X.w) X.A (call f us) (EP X pins σ Q) X.xe s
/-- a value's truth -/
def TruR (X : Cx) (r : V → Hp → (Bool → Hp → Prop) → Prop) : Prop :=
  ∀ (pins : List (Addr × Obj)) (s : Shared) (σ : St) (H : Hp) (x : V) (v : Value) (Q : Bool → Hp → Prop), Inv X pins σ H s → RelV x v → r x H Q →
    wpAny (model X.prog X.w) X.A (truthy v) (TP X pins σ Q) X.xe s

def tOp (r : R2) (ta tb : TE) : TE := fun σ H Q => ta σ H fun x H1 => tb σ H1 fun y H2 => r x y H2 Q
def tUn (r : V → Hp → VK → Prop) (ta : TE) : TE := fun σ H Q => ta σ H fun x H1 => r x H1 Q
/-- ints in, under C, and a value out -/
def rI (C : Int → Int → Prop) (g : Int → Int → V) : R2 := fun x y H Q => ∃ i j, x = .int i ∧ y = .int j ∧ C i j ∧ Q (g i j) H
def rI0 (g : Int → Int → V) : R2 := fun x y H Q => ∃ i j, x = .int i ∧ y = .int j ∧ Q (g i j) H
def rU (g : Int → V) : V → Hp → VK → Prop := fun x H Q => ∃ i, x = .int i ∧ Q (g i) H

section
variable {X : Cx} {a b c : Expr} {ta tb tc : TE} {pos : Pos}

theorem binT (ha : PE X a ta) (hb : PE X b tb) {pins : List (Addr × Obj)} {s : Shared} {σ : St} {H : Hp} {R : V → V → Hp → Prop} (I : Inv X pins σ H s)
    (h : ta σ H fun x H1 => tb σ H1 fun y H2 => R x y H2) {Q : Value → Shared → Prop} {f : Value → Value → Sem Value}
    (hf : ∀ v u s2 x y H2, Inv X pins σ H2 s2 → RelV x v → RelV y u → R x y H2 → wpAny (model X.prog X.w) X.A (f v u) Q X.xe s2) :
    wpAny (model X.prog X.w) X.A (eval a X.env) (fun v s₁ => wpAny (model X.prog X.w) X.A (eval b X.env) (fun u s₂ => wpAny (model X.prog X.w) X.A (f v u) Q X.xe s₂) X.xe s₁) X.xe s := by
  refine thn (ha pins s σ H _ I h) fun v s1 ⟨x, H1, I1, r1, q1⟩ => ?_
  refine thn (hb pins s1 σ H1 _ I1 q1) fun u s2 ⟨y, H2, I2, r2, q2⟩ => ?_
  exact hf v u s2 x y H2 I2 r1 r2 q2

theorem pe_op {op : Operator} {r : R2} (ho : OpR X (binaryOp op) r) (ha : PE X a ta) (hb : PE X b tb) : PE X (.BinOp a op b pos) (tOp r ta tb) := by
  intro pins s σ H Q I h
  exact wpAny_BinOp (binT ha hb I h fun v u s2 x y H2 I2 rx ry q => ho pins s2 σ H2 x y v u Q I2 rx ry q)
theorem pe_un {op : UnaryOp} {r : V → Hp → VK → Prop} (ho : UnR X (unaryOp op) r) (ha : PE X a ta) : PE X (.UnaryOp op a pos) (tUn r ta) := by
  intro pins s σ H Q I h
  exact UnaryOp_ (thn (ha pins s σ H _ I h) fun v s1 ⟨x, H1, I1, r1, q1⟩ => ho pins s1 σ H1 x v Q I1 r1 q1)
/-- a op= e at a name: the name's slot i -/
theorem augR {op : Operator} {r : R2} (ho : OpR X (inplaceOp op) r) {pins : List (Addr × Obj)} {s : Shared} {σ : St} {H : Hp} {x y : V} {v u : Value} {Q : VK} (I : Inv X pins σ H s)
    (rx : RelV x v) (ry : RelV y u) (q : r x y H Q) : wpAny (model X.prog X.w) X.A (inplaceOp op v u) (EP X pins σ Q) X.xe s := ho pins s σ H x y v u Q I rx ry q

/-! ### ints -/
theorem opI {f : Value → Value → Sem Value} {C : Int → Int → Prop} {g : Int → Int → Int}
    (rule : ∀ (i j : Int) (t u : Tok) (s : Shared) (Q : Value → Shared → Prop) (E : Value → Shared → Prop), C i j → Q (.int (g i j) s.toks) { s with toks := s.toks + 1 } → wpAny (model X.prog X.w) X.A (f (.int i t) (.int j u)) Q E s) :
    OpR X f (rI C fun i j => .int (g i j)) := by
  intro pins s σ H x y v u Q I rx ry h
  obtain ⟨i, j, rfl, rfl, hc, q⟩ := h
  obtain ⟨t, rfl⟩ := rx
  obtain ⟨t', rfl⟩ := ry
  exact rule i j t t' s _ _ hc ⟨.int (g i j), H, I.tok _, ⟨_, rfl⟩, q⟩
theorem opI0 {f : Value → Value → Sem Value} {g : Int → Int → Int}
    (rule : ∀ (i j : Int) (t u : Tok) (s : Shared) (Q : Value → Shared → Prop) (E : Value → Shared → Prop), Q (.int (g i j) s.toks) { s with toks := s.toks + 1 } → wpAny (model X.prog X.w) X.A (f (.int i t) (.int j u)) Q E s) :
    OpR X f (rI0 fun i j => .int (g i j)) := by
  intro pins s σ H x y v u Q I rx ry h
  obtain ⟨i, j, rfl, rfl, q⟩ := h
  obtain ⟨t, rfl⟩ := rx
  obtain ⟨t', rfl⟩ := ry
  exact rule i j t t' s _ _ ⟨.int (g i j), H, I.tok _, ⟨_, rfl⟩, q⟩
theorem opB0 {f : Value → Value → Sem Value} {g : Int → Int → Bool}
    (rule : ∀ (i j : Int) (t u : Tok) (s : Shared) (Q : Value → Shared → Prop) (E : Value → Shared → Prop), Q (.bool (g i j)) s → wpAny (model X.prog X.w) X.A (f (.int i t) (.int j u)) Q E s) :
    OpR X f (rI0 fun i j => .bl (g i j)) := by
  intro pins s σ H x y v u Q I rx ry h
  obtain ⟨i, j, rfl, rfl, q⟩ := h
  obtain ⟨t, rfl⟩ := rx
  obtain ⟨t', rfl⟩ := ry
  exact rule i j t t' s _ _ ⟨.bl (g i j), H, I, rfl, q⟩

def CDiv (i j : Int) : Prop := 0 < j ∧ j < 1073741824
def CDivN (i j : Int) : Prop := j ≠ 0 ∧ j.natAbs < 1073741824
def CPow (i j : Int) : Prop := 0 ≤ j ∧ j ≤ 1000000 ∧ i.natAbs < 2 ^ 64
def CMul (i j : Int) : Prop := (-(2 ^ 64) < i ∧ i < 2 ^ 64) ∨ (-(2 ^ 64) < j ∧ j < 2 ^ 64)
theorem CMul.ok {i j : Int} (h : CMul i j) : IntMulOk i j := by
  rcases h with ⟨h1, h2⟩ | ⟨h1, h2⟩
  · exact .of_left (intBits_le_64 h1 h2)
  · exact .of_right (intBits_le_64 h1 h2)
theorem two_pow_nn (k : Nat) : (0 : Int) ≤ 2 ^ k := by
  rw [two_pow_cast]
  exact Int.natCast_nonneg _

theorem op_add : OpR X (binaryOp .Add) (rI0 fun i j => .int (i + j)) := opI0 fun _ _ _ _ _ _ _ q => add_int q
theorem op_sub : OpR X (binaryOp .Sub) (rI0 fun i j => .int (i - j)) := opI0 fun _ _ _ _ _ _ _ q => sub_int q
theorem op_mul : OpR X (binaryOp .Mult) (rI CMul fun i j => .int (i * j)) := opI fun _ _ _ _ _ _ _ hc q => mul_int q hc.ok
/-- // by a positive divisor -/
theorem op_fdiv : OpR X (binaryOp .FloorDiv) (rI CDiv fun i j => .int (i / j)) := opI fun i j _ _ _ _ _ hc q => by
  have h1 : (0 : Int) < j := hc.1
  have h2 : j < 1073741824 := hc.2
  exact floordiv_int (by omega) (by rw [Int.fdiv_eq_ediv_of_nonneg i (by omega)]; exact q) (.inl (PyProof.noPylong_small (by omega)))
theorem op_fdivN : OpR X (binaryOp .FloorDiv) (rI CDivN fun i j => .int (i.fdiv j)) := opI fun _ _ _ _ _ _ _ hc q => floordiv_int hc.1 q (.inl (PyProof.noPylong_small hc.2))
/-- % by a positive divisor of any size -/
theorem op_mod : OpR X (binaryOp .Mod) (rI (fun _ j => 0 < j) fun i j => .int (i % j)) := opI fun i j _ _ _ _ _ hc q => by
  have h1 : (0 : Int) < j := hc
  exact mod_int' (by omega) (by rw [Int.fmod_eq_emod_of_nonneg i (by omega)]; exact q)
theorem op_modN : OpR X (binaryOp .Mod) (rI (fun _ j => j ≠ 0) fun i j => .int (i.fmod j)) := opI fun _ _ _ _ _ _ _ hc q => mod_int' hc q
theorem op_pow : OpR X (binaryOp .Pow) (rI CPow fun i j => .int (i ^ j.toNat)) := opI fun _ _ _ _ _ _ _ hc q => pow_int_small hc.1 hc.2.1 hc.2.2 q
theorem op_shl : OpR X (binaryOp .LShift) (rI CPow fun i j => .int (i * 2 ^ j.toNat)) := opI fun _ _ _ _ _ _ _ hc q => lshift_int_small hc.1 hc.2.1 hc.2.2 q
theorem op_shr : OpR X (binaryOp .RShift) (rI (fun _ j => 0 ≤ j) fun i j => .int (i / 2 ^ j.toNat)) := opI fun i j _ _ _ _ _ hc q =>
  rshift_int hc (by rw [Int.fdiv_eq_ediv_of_nonneg i (two_pow_nn _)]; exact q)
theorem op_and : OpR X (binaryOp .BitAnd) (rI0 fun i j => .int (Builtin.bitAnd i j)) := opI0 fun _ _ _ _ _ _ _ q => and_int q
theorem op_or : OpR X (binaryOp .BitOr) (rI0 fun i j => .int (Builtin.bitOr i j)) := opI0 fun _ _ _ _ _ _ _ q => or_int q
theorem op_xor : OpR X (binaryOp .BitXor) (rI0 fun i j => .int (Builtin.bitXor i j)) := opI0 fun _ _ _ _ _ _ _ q => xor_int q

theorem iop_add : OpR X (inplaceOp .Add) (rI0 fun i j => .int (i + j)) := opI0 fun _ _ _ _ _ _ _ q => iadd_int q
theorem iop_sub : OpR X (inplaceOp .Sub) (rI0 fun i j => .int (i - j)) := opI0 fun _ _ _ _ _ _ _ q => isub_int q
theorem iop_mul : OpR X (inplaceOp .Mult) (rI CMul fun i j => .int (i * j)) := opI fun _ _ _ _ _ _ _ hc q => imul_int q hc.ok
theorem iop_fdiv : OpR X (inplaceOp .FloorDiv) (rI CDiv fun i j => .int (i / j)) := opI fun i j _ _ _ _ _ hc q => by
  have h1 : (0 : Int) < j := hc.1
  have h2 : j < 1073741824 := hc.2
  exact ifloordiv_int (by omega) (by rw [Int.fdiv_eq_ediv_of_nonneg i (by omega)]; exact q) (.inl (PyProof.noPylong_small (by omega)))
theorem iop_mod : OpR X (inplaceOp .Mod) (rI (fun _ j => 0 < j) fun i j => .int (i % j)) := opI fun i j _ _ _ _ _ hc q => by
  have h1 : (0 : Int) < j := hc
  exact imod_int (by omega) (by rw [Int.fmod_eq_emod_of_nonneg i (by omega)]; exact q)
theorem iop_shl : OpR X (inplaceOp .LShift) (rI CPow fun i j => .int (i * 2 ^ j.toNat)) := opI fun _ _ _ _ _ _ _ hc q => ilshift_int_small hc.1 hc.2.1 hc.2.2 q
theorem iop_shr : OpR X (inplaceOp .RShift) (rI (fun _ j => 0 ≤ j) fun i j => .int (i / 2 ^ j.toNat)) := opI fun i j _ _ _ _ _ hc q =>
  irshift_int hc (by rw [Int.fdiv_eq_ediv_of_nonneg i (two_pow_nn _)]; exact q)
theorem iop_and : OpR X (inplaceOp .BitAnd) (rI0 fun i j => .int (Builtin.bitAnd i j)) := opI0 fun _ _ _ _ _ _ _ q => iand_int q
theorem iop_or : OpR X (inplaceOp .BitOr) (rI0 fun i j => .int (Builtin.bitOr i j)) := opI0 fun _ _ _ _ _ _ _ q => ior_int q
theorem iop_xor : OpR X (inplaceOp .BitXor) (rI0 fun i j => .int (Builtin.bitXor i j)) := opI0 fun _ _ _ _ _ _ _ q => ixor_int q

theorem unI {f : Value → Sem Value} {g : Int → Int}
    (rule : ∀ (i : Int) (t : Tok) (s : Shared) (Q : Value → Shared → Prop) (E : Value → Shared → Prop), Q (.int (g i) s.toks) { s with toks := s.toks + 1 } → wpAny (model X.prog X.w) X.A (f (.int i t)) Q E s) :
    UnR X f (rU fun i => .int (g i)) := by
  intro pins s σ H x v Q I rx h
  obtain ⟨i, rfl, q⟩ := h
  obtain ⟨t, rfl⟩ := rx
  exact rule i t s _ _ ⟨.int (g i), H, I.tok _, ⟨_, rfl⟩, q⟩
theorem un_neg : UnR X (unaryOp .USub) (rU fun i => .int (-i)) := unI fun _ _ _ _ _ q => neg_int q
theorem un_inv : UnR X (unaryOp .Invert) (rU fun i => .int (Builtin.bitNot i)) := unI fun _ _ _ _ _ q => invert_int q

/-! ### bools among ints: n += (a < b) -/
theorem op_add_ib : OpR X (binaryOp .Add) (fun x y H Q => ∃ i k, x = .int i ∧ y = .bl k ∧ Q (.int (i + b2i k)) H) := by
  intro pins s σ H x y v u Q I rx ry h
  obtain ⟨i, k, rfl, rfl, q⟩ := h
  obtain ⟨t, rfl⟩ := rx
  cases ry
  exact add_int_bool ⟨.int (i + b2i k), H, I.tok _, ⟨_, rfl⟩, q⟩
end

/-! ### comparisons -/
/-- the scalars that == tells apart as data does -/
def scal : V → V → Bool
  | .non, .non => true | .non, .int _ => true | .int _, .non => true | .non, .bl _ => true | .bl _, .non => true | .non, .str _ => true | .str _, .non => true
  | .int _, .int _ => true | .bl _, .bl _ => true | .str _, .str _ => true | .byt _, .byt _ => true
  | .int _, .str _ => true | .str _, .int _ => true | .bl _, .str _ => true | .str _, .bl _ => true
  | _, _ => false
def rEq : R2 := fun x y H Q => scal x y = true ∧ Q (.bl (decide (x = y))) H
def rNe : R2 := fun x y H Q => scal x y = true ∧ Q (.bl (!decide (x = y))) H

theorem dec_int {i j : Int} : decide (V.int i = V.int j) = (i == j) := by
  rw [Bool.eq_iff_iff]
  simp
theorem dec_bl {i j : Bool} : decide (V.bl i = V.bl j) = (i == j) := by
  rw [Bool.eq_iff_iff]
  simp
theorem dec_str {i j : Str} : decide (V.str i = V.str j) = (i == j) := by
  rw [Bool.eq_iff_iff]
  simp
theorem dec_byt {i j : Array UInt8} : decide (V.byt i = V.byt j) = (i.toList == j.toList) := by
  rw [Bool.eq_iff_iff]
  cases i
  cases j
  simp

section
variable {X : Cx} {a b c : Expr} {ta tb tc : TE} {pos : Pos}
theorem fin_bl {pins : List (Addr × Obj)} {σ : St} {H : Hp} {s : Shared} {Q : VK} {k k' : Bool} (I : Inv X pins σ H s) (q : Q (.bl k) H) (e : k = k') : EP X pins σ Q (.bool k') s := by
  subst e
  exact ⟨.bl k, H, I, rfl, q⟩
theorem op_eq : OpR X (compareOp .Eq) rEq := by
  intro pins s σ H x y v u Q I rx ry h
  obtain ⟨hs, q⟩ := h
  cases x with
  | non =>
    cases rx
    cases y with
    | non => cases ry; exact PySem.EqNone.eq_none_none (fin_bl I q (by simp))
    | bl j => cases ry; exact PySem.EqNone.eq_none_bool (fin_bl I q (by simp))
    | int j => obtain ⟨t', rfl⟩ := ry; exact PySem.EqNone.eq_none_int (fin_bl I q (by simp))
    | str j => obtain ⟨t', rfl⟩ := ry; exact PySem.EqNone.eq_none_str (fin_bl I q (by simp))
    | _ => exact absurd (show false = true from hs) Bool.false_ne_true
  | bl i =>
    cases rx
    cases y with
    | non => cases ry; exact PySem.EqNone.eq_bool_none (fin_bl I q (by simp))
    | bl j => cases ry; exact eq_bool (fin_bl I q dec_bl)
    | str j => obtain ⟨t', rfl⟩ := ry; exact PySem.EqMixed.eq_bool_str (fin_bl I q (by simp))
    | _ => exact absurd (show false = true from hs) Bool.false_ne_true
  | int i =>
    obtain ⟨t, rfl⟩ := rx
    cases y with
    | non => cases ry; exact PySem.EqNone.eq_int_none (fin_bl I q (by simp))
    | int j => obtain ⟨t', rfl⟩ := ry; exact eq_int (fin_bl I q dec_int)
    | str j => obtain ⟨t', rfl⟩ := ry; exact PySem.EqMixed.eq_int_str (fin_bl I q (by simp))
    | _ => exact absurd (show false = true from hs) Bool.false_ne_true
  | str i =>
    obtain ⟨t, rfl⟩ := rx
    cases y with
    | non => cases ry; exact PySem.EqNone.eq_str_none (fin_bl I q (by simp))
    | bl j => cases ry; exact PySem.EqMixed.eq_str_bool (fin_bl I q (by simp))
    | int j => obtain ⟨t', rfl⟩ := ry; exact PySem.EqMixed.eq_str_int (fin_bl I q (by simp))
    | str j => obtain ⟨t', rfl⟩ := ry; exact eq_str (fin_bl I q dec_str)
    | _ => exact absurd (show false = true from hs) Bool.false_ne_true
  | byt i =>
    obtain ⟨t, rfl⟩ := rx
    cases y with
    | byt j => obtain ⟨t', rfl⟩ := ry; exact PySem.W.eq_bytes (fin_bl I q dec_byt)
    | _ => exact absurd (show false = true from hs) Bool.false_ne_true
  | _ => cases y <;> exact absurd (show false = true from hs) Bool.false_ne_true
theorem op_ne : OpR X (compareOp .NotEq) rNe := by
  intro pins s σ H x y v u Q I rx ry h
  obtain ⟨hs, q⟩ := h
  cases x with
  | non =>
    cases rx
    cases y with
    | non => cases ry; exact PySem.EqNone.ne_none_none (fin_bl I q (by simp))
    | bl j => cases ry; exact PySem.EqNone.ne_none_bool (fin_bl I q (by simp))
    | int j => obtain ⟨t', rfl⟩ := ry; exact PySem.EqNone.ne_none_int (fin_bl I q (by simp))
    | str j => obtain ⟨t', rfl⟩ := ry; exact PySem.EqNone.ne_none_str (fin_bl I q (by simp))
    | _ => exact absurd (show false = true from hs) Bool.false_ne_true
  | bl i =>
    cases rx
    cases y with
    | non => cases ry; exact PySem.EqNone.ne_bool_none (fin_bl I q (by simp))
    | bl j => cases ry; exact ne_bool (fin_bl I q (congrArg not dec_bl))
    | str j => obtain ⟨t', rfl⟩ := ry; exact PySem.EqMixed.ne_bool_str (fin_bl I q (by simp))
    | _ => exact absurd (show false = true from hs) Bool.false_ne_true
  | int i =>
    obtain ⟨t, rfl⟩ := rx
    cases y with
    | non => cases ry; exact PySem.EqNone.ne_int_none (fin_bl I q (by simp))
    | int j => obtain ⟨t', rfl⟩ := ry; exact ne_int (fin_bl I q (congrArg not dec_int))
    | str j => obtain ⟨t', rfl⟩ := ry; exact PySem.EqMixed.ne_int_str (fin_bl I q (by simp))
    | _ => exact absurd (show false = true from hs) Bool.false_ne_true
  | str i =>
    obtain ⟨t, rfl⟩ := rx
    cases y with
    | non => cases ry; exact PySem.EqNone.ne_str_none (fin_bl I q (by simp))
    | bl j => cases ry; exact PySem.EqMixed.ne_str_bool (fin_bl I q (by simp))
    | int j => obtain ⟨t', rfl⟩ := ry; exact PySem.EqMixed.ne_str_int (fin_bl I q (by simp))
    | str j => obtain ⟨t', rfl⟩ := ry; exact ne_str (fin_bl I q (congrArg not dec_str))
    | _ => exact absurd (show false = true from hs) Bool.false_ne_true
  | byt i =>
    obtain ⟨t, rfl⟩ := rx
    cases y with
    | byt j => obtain ⟨t', rfl⟩ := ry; exact PySem.W.ne_bytes (fin_bl I q (congrArg not dec_byt))
    | _ => exact absurd (show false = true from hs) Bool.false_ne_true
  | _ => cases y <;> exact absurd (show false = true from hs) Bool.false_ne_true

theorem op_lt : OpR X (compareOp .Lt) (rI0 fun i j => .bl (decide (i < j))) := opB0 fun _ _ _ _ _ _ _ q => lt_int q
theorem op_le : OpR X (compareOp .LtE) (rI0 fun i j => .bl (decide (i ≤ j))) := opB0 fun _ _ _ _ _ _ _ q => le_int q
theorem op_gt : OpR X (compareOp .Gt) (rI0 fun i j => .bl (decide (j < i))) := opB0 fun _ _ _ _ _ _ _ q => gt_int q
theorem op_ge : OpR X (compareOp .GtE) (rI0 fun i j => .bl (decide (j ≤ i))) := opB0 fun _ _ _ _ _ _ _ q => ge_int q
theorem op_lt_str : OpR X (compareOp .Lt) (fun x y H Q => ∃ i j, x = .str i ∧ y = .str j ∧ Q (.bl (decide (i.cps.toList < j.cps.toList))) H) := by
  intro pins s σ H x y v u Q I rx ry h
  obtain ⟨i, j, rfl, rfl, q⟩ := h
  obtain ⟨t, rfl⟩ := rx
  obtain ⟨t', rfl⟩ := ry
  exact lt_str (fin_bl I q rfl)
/-- the one string within the other -/
theorem op_in_str : OpR X (compareOp .In) (fun x y H Q => ∃ i j, x = .str i ∧ y = .str j ∧ Q (.bl (!(Builtin.Str.occurrences j i 0 j.length 1).isEmpty)) H) := by
  intro pins s σ H x y v u Q I rx ry h
  obtain ⟨i, j, rfl, rfl, q⟩ := h
  obtain ⟨t, rfl⟩ := rx
  obtain ⟨t', rfl⟩ := ry
  exact in_str (fin_bl I q rfl)

/-- is None, is not None: the right side a value none -/
theorem op_isN : OpR X (compareOp .Is) (fun x y H Q => y = .non ∧ Q (.bl (decide (x = .non))) H) := by
  intro pins s σ H x y v u Q I rx ry h
  obtain ⟨rfl, q⟩ := h
  cases ry
  refine is_none_gen (fin_bl I q ?_)
  cases x <;> first
    | (cases rx; rfl)
    | (obtain ⟨t, rfl⟩ := rx; rfl)
theorem op_notN : OpR X (compareOp .IsNot) (fun x y H Q => y = .non ∧ Q (.bl (!decide (x = .non))) H) := by
  intro pins s σ H x y v u Q I rx ry h
  obtain ⟨rfl, q⟩ := h
  cases ry
  refine isnot_none_gen (fin_bl I q ?_)
  cases x <;> first
    | (cases rx; rfl)
    | (obtain ⟨t, rfl⟩ := rx; rfl)

theorem op_notin_str : OpR X (compareOp .NotIn) (fun x y H Q => ∃ i j, x = .str i ∧ y = .str j ∧ Q (.bl (!(!(Builtin.Str.occurrences j i 0 j.length 1).isEmpty))) H) := by
  intro pins s σ H x y v u Q I rx ry h
  obtain ⟨i, j, rfl, rfl, q⟩ := h
  obtain ⟨t, rfl⟩ := rx
  obtain ⟨t', rfl⟩ := ry
  exact notIn_str (fin_bl I q rfl)
/-- is, is not of two objects that are tracked lists or instances -/
def isObj : HO → Bool
  | .lst _ => true
  | .ins _ _ _ => true
  | _ => false
theorem obj_there {pins : List (Addr × Obj)} {s : Shared} {σ : St} {H : Hp} {a : Addr} {o : HO} (I : Inv X pins σ H s) (h : H a = some o) (p : isObj o = true) : ∃ ob, s.heap.get? a = some ob ∧ ob.cls ≠ .type "tuple" := by
  cases o with
  | lst xs =>
    obtain ⟨_, its, n, _, e⟩ : xs.length ≤ sizeLine ∧ ∃ (its : List Value) (n : Nat), Vals xs its ∧ s.heap.get? a = some { cls := .type "list", data := .seq its.toArray n } := I.hok a _ h
    exact ⟨_, e, (by show Value.type "list" ≠ .type "tuple"; decide +kernel)⟩
  | ins C dx fs =>
    have x := I.hok a _ h
    obtain ⟨_, _, _, e, _⟩ := x
    exact ⟨_, e, (by show Value.ref C ≠ .type "tuple"; exact fun z => by cases z)⟩
  | _ => exact absurd (show false = true from p) Bool.false_ne_true
theorem op_is_ref : OpR X (compareOp .Is) (fun x y H Q => ∃ a b oa ob, x = .ref a ∧ y = .ref b ∧ H a = some oa ∧ isObj oa = true ∧ H b = some ob ∧ isObj ob = true ∧ Q (.bl (decide (a = b))) H) := by
  intro pins s σ H x y v u Q I rx ry h
  obtain ⟨a, b, oa, ob, rfl, rfl, ha, pa, hb, pb, q⟩ := h
  cases rx
  cases ry
  obtain ⟨o1, e1, n1⟩ := obj_there I ha pa
  obtain ⟨o2, e2, _⟩ := obj_there I hb pb
  by_cases z : a = b
  · subst z
    exact wpAny_is_ref_self (fin_bl I q (by simp))
  · exact wpAny_is_ref_other z e1 e2 n1 (fin_bl I q (by simp [z]))
theorem op_isnot_ref : OpR X (compareOp .IsNot) (fun x y H Q => ∃ a b oa ob, x = .ref a ∧ y = .ref b ∧ H a = some oa ∧ isObj oa = true ∧ H b = some ob ∧ isObj ob = true ∧ Q (.bl (!decide (a = b))) H) := by
  intro pins s σ H x y v u Q I rx ry h
  obtain ⟨a, b, oa, ob, rfl, rfl, ha, pa, hb, pb, q⟩ := h
  cases rx
  cases ry
  obtain ⟨o1, e1, n1⟩ := obj_there I ha pa
  obtain ⟨o2, e2, _⟩ := obj_there I hb pb
  by_cases z : a = b
  · subst z
    exact wpAny_isNot_ref_self (fin_bl I q (by simp))
  · exact wpAny_isNot_ref_other z e1 e2 n1 (fin_bl I q (by simp [z]))

/-- two rules for one operation: by cases -/
theorem OpR.or {f : Value → Value → Sem Value} {r r' : R2} (h : OpR X f r) (h' : OpR X f r') : OpR X f (fun x y H Q => r x y H Q ∨ r' x y H Q) := by
  intro pins s σ H x y v u Q I rx ry q
  rcases q with q | q
  · exact h pins s σ H x y v u Q I rx ry q
  · exact h' pins s σ H x y v u Q I rx ry q

theorem nomark (b : Expr) {op : CmpOp} (h : op ≠ .In := by decide) (h2 : op ≠ .NotIn := by decide) : behindInMarks op b = false := by
  have e1 : (op == CmpOp.In) = false := by cases op <;> first | rfl | exact absurd rfl h
  have e2 : (op == CmpOp.NotIn) = false := by cases op <;> first | rfl | exact absurd rfl h2
  cases b <;> simp [behindInMarks, e1, e2]
/-- a comparison as a value; hm: nomark b, or (for in, not in) by with_unfolding_all rfl -/
theorem pe_cmpR {op : CmpOp} {r : R2} (ho : OpR X (compareOp op) r) (ha : PE X a ta) (hb : PE X b tb) (hm : behindInMarks op b = false) : PE X (.Compare a [op] [b] pos) (tOp r ta tb) := by
  intro pins s σ H Q I h
  exact wpAny_Compare1 (binT ha hb I h fun v u s2 x y H2 I2 rx ry q => ho pins s2 σ H2 x y v u Q I2 rx ry q) hm
/-- a reading of a value as a test -/
def tTest (t : TE) : TT := fun σ H Q => t σ H fun x H' => ∃ k, x = .bl k ∧ Q k H'
theorem pt_cmpR {op : CmpOp} {r : R2} (ho : OpR X (compareOp op) r) (ha : PE X a ta) (hb : PE X b tb) (hm : behindInMarks op b = false) : PT X (.Compare a [op] [b] pos) (tTest (tOp r ta tb)) := by
  intro pins s σ H Q I h
  refine wpAny_isTrue_Compare1 (thn (ha pins s σ H _ I h) fun v s1 ⟨x, H1, I1, r1, q1⟩ => thn (hb pins s1 σ H1 _ I1 q1) fun u s2 ⟨y, H2, I2, r2, q2⟩ =>
    thn (ho pins s2 σ H2 x y v u _ I2 r1 r2 q2) fun c s3 ⟨z, H3, I3, r3, k, e, q3⟩ => ?_) hm
  subst e
  cases r3
  exact wpAny_truthy_bool ⟨H3, I3, q3⟩
/-- a op1 b op2 c -/
def tChain (r r' : R2) (ta tb tc : TE) : TE := fun σ H Q => ta σ H fun x H1 => tb σ H1 fun y H2 => r x y H2 fun z H3 => ∃ k, z = .bl k ∧
  (if k = true then tc σ H3 fun w' H4 => r' y w' H4 Q else Q (.bl false) H3)
theorem pe_chain {op op' : CmpOp} {r r' : R2} (ho : OpR X (compareOp op) r) (ho' : OpR X (compareOp op') r') (ha : PE X a ta) (hb : PE X b tb) (hc : PE X c tc)
    (hm : lastMarks [op, op'] [b, c] = false := by with_unfolding_all rfl) : PE X (.Compare a [op, op'] [b, c] pos) (tChain r r' ta tb tc) := by
  intro pins s σ H Q I h
  refine Compare_chain (thn (ha pins s σ H _ I h) fun v s1 ⟨x, H1, I1, r1, q1⟩ => chain_link (thn (hb pins s1 σ H1 _ I1 q1) fun u s2 ⟨y, H2, I2, r2, q2⟩ =>
    thn (ho pins s2 σ H2 x y v u _ I2 r1 r2 q2) fun d s3 ⟨z, H3, I3, r3, k, e, q3⟩ => ?_)) hm
  subst e
  cases r3
  refine wpAny_truthy_bool ?_
  cases k with
  | false => exact ite_ff ⟨.bl false, H3, I3, rfl, q3⟩
  | true => exact ite_tt (chain_last (thn (hc pins s3 σ H3 _ I3 q3) fun w' s4 ⟨z', H4, I4, r4, q4⟩ => ho' pins s4 σ H4 y z' u w' Q I4 r2 r4 q4))
theorem pt_chain {op op' : CmpOp} {r r' : R2} (ho : OpR X (compareOp op) r) (ho' : OpR X (compareOp op') r') (ha : PE X a ta) (hb : PE X b tb) (hc : PE X c tc)
    (hm : lastMarks [op, op'] [b, c] = false := by with_unfolding_all rfl) : PT X (.Compare a [op, op'] [b, c] pos) (tTest (tChain r r' ta tb tc)) := by
  intro pins s σ H Q I h
  refine isTrue_chain (thn (ha pins s σ H _ I h) fun v s1 ⟨x, H1, I1, r1, q1⟩ => test_link (thn (hb pins s1 σ H1 _ I1 q1) fun u s2 ⟨y, H2, I2, r2, q2⟩ =>
    thn (ho pins s2 σ H2 x y v u _ I2 r1 r2 q2) fun d s3 ⟨z, H3, I3, r3, k, e, q3⟩ => ?_)) hm
  subst e
  cases r3
  refine wpAny_truthy_bool ?_
  cases k with
  | false =>
    obtain ⟨k', e', q'⟩ := q3
    cases e'
    exact ite_ff ⟨H3, I3, q'⟩
  | true =>
    refine ite_tt (test_last (thn (hc pins s3 σ H3 _ I3 q3) fun w' s4 ⟨z', H4, I4, r4, q4⟩ => thn (ho' pins s4 σ H4 y z' u w' _ I4 r2 r4 q4) fun d' s5 ⟨z2, H5, I5, r5, k2, e2, q5⟩ => ?_))
    subst e2
    cases r5
    exact wpAny_truthy_bool ⟨H5, I5, q5⟩

/-! ### truth -/
/-- a value's truth by the abstract heap -/
def TruV (K : PySem.W.Frag) (x : V) (H : Hp) (k : Bool) : Prop :=
  match x with
  | .non => k = false
  | .bl b => k = b
  | .int i => k = (i != 0)
  | .str y => y.length ≤ sizeLine ∧ k = ((y.length : Int) != 0)
  | .byt y => y.size ≤ sizeLine ∧ k = ((y.size : Int) != 0)
  | .ref p => (∃ xs, SqL K H p xs ∧ k = !xs.isEmpty) ∨ (∃ xs, SqT K H p xs ∧ k = !xs.isEmpty) ∨ ∃ kvs, H p = some (.dK kvs) ∧ k = !kvs.isEmpty
  | _ => False
theorem isEmpty_kv {κ : Type} {kvs : List (κ × V)} {vs : List (κ × Value)} (r : KV kvs vs) : (!vs.isEmpty) = !kvs.isEmpty := by
  cases r <;> rfl
theorem isEmpty_of {xs : List V} {its : List Value} (r : Vals xs its) : (!its.toArray.isEmpty) = !xs.isEmpty := by
  cases r <;> simp
theorem line63 : (sizeLine : Nat) < 2 ^ 63 := by rw [sizeLine_eq]; decide
theorem tru_ok : TruR X (fun x H Q => ∃ k, TruV X.K x H k ∧ Q k H) := by
  intro pins s σ H x v Q I rx h
  obtain ⟨k, e, q⟩ := h
  have hl := line63
  have hs : sizeLine = 16777216 := sizeLine_eq
  cases x with
  | non =>
    cases rx
    have e' : k = false := e
    subst e'
    exact truthy_none ⟨H, I, q⟩
  | bl b =>
    cases rx
    have e' : k = b := e
    subst e'
    exact wpAny_truthy_bool ⟨H, I, q⟩
  | int i =>
    obtain ⟨t, rfl⟩ := rx
    have e' : k = (i != 0) := e
    subst e'
    exact PySem.P.truthy_int ⟨H, I, q⟩
  | str y =>
    obtain ⟨t, rfl⟩ := rx
    obtain ⟨hy, e'⟩ : y.length ≤ sizeLine ∧ k = ((y.length : Int) != 0) := e
    subst e'
    exact PySem.P.truthy_str (by omega) ⟨H, I.tok _, q⟩
  | byt y =>
    obtain ⟨t, rfl⟩ := rx
    obtain ⟨hy, e'⟩ : y.size ≤ sizeLine ∧ k = ((y.size : Int) != 0) := e
    subst e'
    exact PySem.W.truthy_bytes (by omega) ⟨H, I.tok _, q⟩
  | ref p =>
    cases rx
    have e' : (∃ xs, SqL X.K H p xs ∧ k = !xs.isEmpty) ∨ (∃ xs, SqT X.K H p xs ∧ k = !xs.isEmpty) ∨ ∃ kvs, H p = some (.dK kvs) ∧ k = !kvs.isEmpty := e
    rcases e' with ⟨xs, hx, e'⟩ | ⟨xs, hx, e'⟩ | ⟨kvs, hx, e'⟩
    · subst e'
      obtain ⟨its, r, pl, hz⟩ := I.list hx
      have hlen := r.length
      exact wpAny_truthy_list pl.isList (by simp only [List.size_toArray]; omega) ⟨H, I.tok _, by rw [isEmpty_of r]; exact q⟩
    · subst e'
      obtain ⟨its, r, pl, hz⟩ := I.tuple hx
      have hlen := r.length
      exact truthy_tuple pl (by simp only [List.size_toArray]; omega) ⟨H, I.tok _, by rw [isEmpty_of r]; exact q⟩
    · subst e'
      obtain ⟨hz, hS, vs, r, m⟩ : kvs.length ≤ sizeLine ∧ (p == sysModules) = false ∧ ∃ vs, KV kvs vs ∧ s.heap.DictOf (mixKind X.prog X.w) p vs := I.hok p _ hx
      have hlen : kvs.length = vs.length := Paired.length r
      exact wpAny_truthy_dict hS m (by omega) ⟨H, I.tok _, by rw [isEmpty_kv r]; exact q⟩
  | _ => exact (show False from e).elim
/-- any expression whose test is its value's truth (a name, a call, a subscript, a field ..: he by fun _ => rfl) -/
theorem pt_truth (ha : PE X a ta) (he : ∀ whole, isTrue a X.env whole = (do let v ← whole; standAt a.pos; holding [v] (truthy v))) :
    PT X a (fun σ H Q => ta σ H fun x H' => ∃ k, TruV X.K x H' k ∧ Q k H') := by
  intro pins s σ H Q I h
  exact isTrue_plain (thn (ha pins s σ H _ I h) fun v s1 ⟨x, H1, I1, r1, q1⟩ => tru_ok pins s1 σ H1 x v Q I1 r1 q1) (he _)

/-! ### strs and bytes -/
theorem pe_byt {x : List UInt8} {k : Nat} : PE X (.Constant (.bytes x) k pos) (fun _ H Q => Q (.byt x.toArray) H) := fun _ _ _ H _ I h => PySem.W.Constant_bytes ⟨.byt x.toArray, H, I.tok _, ⟨_, rfl⟩, h⟩
theorem op_add_str : OpR X (binaryOp .Add) (fun x y H Q => ∃ i j, x = .str i ∧ y = .str j ∧ i.length + j.length ≤ sizeLine ∧ Q (.str (i ++ j)) H) := by
  intro pins s σ H x y v u Q I rx ry h
  obtain ⟨i, j, rfl, rfl, hz, q⟩ := h
  obtain ⟨t, rfl⟩ := rx
  obtain ⟨t', rfl⟩ := ry
  exact add_str (fun t' tk => ⟨.str (i ++ j), H, I.tok _, ⟨_, rfl⟩, q⟩) hz
theorem iop_add_str : OpR X (inplaceOp .Add) (fun x y H Q => ∃ i j, x = .str i ∧ y = .str j ∧ i.length + j.length ≤ sizeLine ∧ Q (.str (i ++ j)) H) := by
  intro pins s σ H x y v u Q I rx ry h
  obtain ⟨i, j, rfl, rfl, hz, q⟩ := h
  obtain ⟨t, rfl⟩ := rx
  obtain ⟨t', rfl⟩ := ry
  exact iadd_str (fun t' tk => ⟨.str (i ++ j), H, I.tok _, ⟨_, rfl⟩, q⟩) hz
theorem op_add_byt : OpR X (binaryOp .Add) (fun x y H Q => ∃ i j, x = .byt i ∧ y = .byt j ∧ i.size + j.size ≤ 16777216 ∧ Q (.byt (i ++ j)) H) := by
  intro pins s σ H x y v u Q I rx ry h
  obtain ⟨i, j, rfl, rfl, hz, q⟩ := h
  obtain ⟨t, rfl⟩ := rx
  obtain ⟨t', rfl⟩ := ry
  exact PySem.W.KBy.add_bytes hz (fun t' tk => ⟨.byt (i ++ j), H, I.tok _, ⟨_, rfl⟩, q⟩)

def PlainIxT (b : Expr) : Prop := ∀ o i, subscripted b false o i = operate [o, i] (getItem o i)
/-- s[i], 0 ≤ i < len -/
theorem pe_item_str (ha : PE X a ta) (hb : PE X b tb) (hs : PlainIxT b) :
    PE X (.Subscript a b pos) (tOp (fun x y H Q => ∃ z i c, x = .str z ∧ y = .int i ∧ 0 ≤ i ∧ i < 2 ^ 63 ∧ i < z.length ∧ z.cps[i.toNat]? = some c ∧ Q (.str ⟨#[c]⟩) H) ta tb) := by
  intro pins s σ H Q I h
  refine Subscript_ (binT ha hb I h fun v u s2 x y H2 I2 rx ry q => ?_)
  obtain ⟨z, i, c, rfl, rfl, h0, h63, h1, hc, q⟩ := q
  obtain ⟨t, rfl⟩ := rx
  obtain ⟨t', rfl⟩ := ry
  have e : seqIndex? i z.length = some i.toNat := PySem.StrLaws.seqIndex_nonneg h0 h1
  exact tail_any (typeIs_str s2 z t) slot_str_getitem.lookup (getItem_str (c := c) (by
    have e1 : decide (i < -(2 ^ 63 : Int)) = false := decide_eq_false (by omega)
    have e2 : decide (i ≥ 2 ^ 63) = false := decide_eq_false (by omega)
    rw [e1, e2] <;> rfl) (by rw [e]; exact hc) ⟨.str ⟨#[c]⟩, H2, I2.tok _, ⟨_, rfl⟩, q⟩) (hs _ _)
/-- b[i], 0 ≤ i < len -/
theorem pe_item_byt (ha : PE X a ta) (hb : PE X b tb) (hs : PlainIxT b) :
    PE X (.Subscript a b pos) (tOp (fun x y H Q => ∃ (z : List UInt8) (i : Int), x = .byt z.toArray ∧ y = .int i ∧ z.length ≤ sizeLine ∧ 0 ≤ i ∧ i < z.length ∧ Q (.int ((z.getD i.toNat 0).toNat : Nat)) H) ta tb) := by
  intro pins s σ H Q I h
  refine Subscript_ (binT ha hb I h fun v u s2 x y H2 I2 rx ry q => ?_)
  obtain ⟨z, i, rfl, rfl, hz, h0, h1, q⟩ := q
  obtain ⟨t, rfl⟩ := rx
  obtain ⟨t', rfl⟩ := ry
  have hl : sizeLine = 16777216 := sizeLine_eq
  exact tail_any (PySem.W.typeIs_bytes s2 z.toArray t) PySem.W.FB.slot_bytes_getitem.lookup (PySem.W.getItem_bytes (by omega) h0 h1 ⟨.int ((z.getD i.toNat 0).toNat : Nat), H2, I2.tok _, ⟨_, rfl⟩, q⟩) (hs _ _)

/-! ### scalar builtins, by CallR -/
theorem vals1 {x : V} {us : List Value} (r : Vals [x] us) : ∃ u, us = [u] ∧ RelV x u := by
  cases r with
  | cons r1 r2 => cases r2; exact ⟨_, rfl, r1⟩
theorem vals2 {x y : V} {us : List Value} (r : Vals [x, y] us) : ∃ u w', us = [u, w'] ∧ RelV x u ∧ RelV y w' := by
  cases r with
  | cons r1 r2 =>
    cases r2 with
    | cons r3 r4 => cases r4; exact ⟨_, _, rfl, r1, r3⟩
theorem call_abs : CallR X (.builtin "abs") (fun xs H Q => ∃ i, xs = [.int i] ∧ Q (.int (if i < 0 then -i else i)) H) := by
  intro pins s σ H xs us Q I r h
  obtain ⟨i, rfl, q⟩ := h
  obtain ⟨u, rfl, t, rfl⟩ := vals1 r
  exact call_abs_int fun u tk => ⟨.int (if i < 0 then -i else i), H, I.tok _, ⟨_, rfl⟩, q⟩
theorem call_max2 (hc : X.calm = true) : CallR X (.builtin "max") (fun xs H Q => ∃ i j, xs = [.int i, .int j] ∧ Q (.int (if j > i then j else i)) H) := by
  intro pins s σ H xs us Q I r h
  obtain ⟨i, j, rfl, q⟩ := h
  obtain ⟨u, w', rfl, ⟨t, rfl⟩, ⟨t', rfl⟩⟩ := vals2 r
  refine max_two_ints (I.ok.hd hc) fun h' tk k => ⟨_, H, I.kept k, ?_, q⟩
  by_cases hj : j > i
  · rw [if_pos hj, if_pos hj]; exact ⟨_, rfl⟩
  · rw [if_neg hj, if_neg hj]; exact ⟨_, rfl⟩
theorem call_min2 (hc : X.calm = true) : CallR X (.builtin "min") (fun xs H Q => ∃ i j, xs = [.int i, .int j] ∧ Q (.int (if j < i then j else i)) H) := by
  intro pins s σ H xs us Q I r h
  obtain ⟨i, j, rfl, q⟩ := h
  obtain ⟨u, w', rfl, ⟨t, rfl⟩, ⟨t', rfl⟩⟩ := vals2 r
  refine min_two_ints (I.ok.hd hc) fun h' tk k => ⟨_, H, I.kept k, ?_, q⟩
  by_cases hj : j < i
  · rw [if_pos hj, if_pos hj]; exact ⟨_, rfl⟩
  · rw [if_neg hj, if_neg hj]; exact ⟨_, rfl⟩
theorem call_int1 : CallR X (.type "int") (fun xs H Q => (∃ i, xs = [.int i] ∧ Q (.int i) H) ∨ ∃ k, xs = [.bl k] ∧ Q (.int (if k then 1 else 0)) H) := by
  intro pins s σ H xs us Q I r h
  rcases h with ⟨i, rfl, q⟩ | ⟨k, rfl, q⟩
  · obtain ⟨u, rfl, t, rfl⟩ := vals1 r
    exact call_int_int ⟨.int i, H, I, ⟨_, rfl⟩, q⟩
  · obtain ⟨u, rfl, r1⟩ := vals1 r
    cases r1
    exact call_int_bool ⟨.int (if k then 1 else 0), H, I.tok _, ⟨_, rfl⟩, q⟩
theorem call_bool1 : CallR X (.type "bool") (fun xs H Q => (∃ i, xs = [.int i] ∧ Q (.bl (i != 0)) H) ∨ ∃ k, xs = [.bl k] ∧ Q (.bl k) H) := by
  intro pins s σ H xs us Q I r h
  rcases h with ⟨i, rfl, q⟩ | ⟨k, rfl, q⟩
  · obtain ⟨u, rfl, t, rfl⟩ := vals1 r
    exact call_bool_int ⟨.bl (i != 0), H, I, rfl, q⟩
  · obtain ⟨u, rfl, r1⟩ := vals1 r
    cases r1
    exact call_bool_bool ⟨.bl k, H, I, rfl, q⟩
theorem call_str_int : CallR X (.type "str") (fun xs H Q => ∃ i, xs = [.int i] ∧ i.natAbs.log2 < 1920 ∧ Q (.str (toString i)) H) := by
  intro pins s σ H xs us Q I r h
  obtain ⟨i, rfl, hz, q⟩ := h
  obtain ⟨u, rfl, t, rfl⟩ := vals1 r
  exact PySem.P.str_of_int hz ⟨.str _, H, I.tok _, ⟨_, rfl⟩, q⟩
theorem call_ord : CallR X (.builtin "ord") (fun xs H Q => ∃ x, xs = [.str x] ∧ x.length = 1 ∧ Q (.int (x.cps.getD 0 0 : Nat)) H) := by
  intro pins s σ H xs us Q I r h
  obtain ⟨x, rfl, hz, q⟩ := h
  obtain ⟨u, rfl, t, rfl⟩ := vals1 r
  exact ord_of_one hz ⟨.int _, H, I.tok _, ⟨_, rfl⟩, q⟩
theorem call_chr : CallR X (.builtin "chr") (fun xs H Q => ∃ i, xs = [.int i] ∧ 0 ≤ i ∧ i ≤ 1114111 ∧ Q (.str ⟨#[i.toNat]⟩) H) := by
  intro pins s σ H xs us Q I r h
  obtain ⟨i, rfl, h0, h1, q⟩ := h
  obtain ⟨u, rfl, t, rfl⟩ := vals1 r
  exact chr_of_range h0 h1 ⟨.str _, H, I.tok _, ⟨_, rfl⟩, q⟩
/-- len of a str, a bytes, a list, a tuple -/
def LenV (K : PySem.W.Frag) (x : V) (H : Hp) (n : Nat) : Prop :=
  match x with
  | .str y => y.length ≤ sizeLine ∧ n = y.length
  | .byt y => y.size ≤ sizeLine ∧ n = y.size
  | .ref p => (∃ xs, SqL K H p xs ∧ n = xs.length) ∨ ∃ xs, SqT K H p xs ∧ n = xs.length
  | _ => False
theorem call_len : CallR X (.builtin "len") (fun xs H Q => ∃ x n, xs = [x] ∧ LenV X.K x H n ∧ Q (.int n) H) := by
  intro pins s σ H xs us Q I r h
  obtain ⟨x, n, rfl, e, q⟩ := h
  obtain ⟨u, rfl, rx⟩ := vals1 r
  have hl := line63
  have hs : sizeLine = 16777216 := sizeLine_eq
  cases x with
  | str y =>
    obtain ⟨t, rfl⟩ := rx
    obtain ⟨hy, e'⟩ : y.length ≤ sizeLine ∧ n = y.length := e
    subst e'
    exact len_str (by omega) ⟨.int _, H, I.tok _, ⟨_, rfl⟩, q⟩
  | byt y =>
    obtain ⟨t, rfl⟩ := rx
    obtain ⟨hy, e'⟩ : y.size ≤ sizeLine ∧ n = y.size := e
    subst e'
    exact PySem.W.len_bytes (by omega) ⟨.int _, H, I.tok _, ⟨_, rfl⟩, q⟩
  | ref p =>
    cases rx
    have e' : (∃ xs, SqL X.K H p xs ∧ n = xs.length) ∨ ∃ xs, SqT X.K H p xs ∧ n = xs.length := e
    rcases e' with ⟨xs, hx, e'⟩ | ⟨xs, hx, e'⟩
    · subst e'
      obtain ⟨its, r', pl, hz⟩ := I.list hx
      have hlen := r'.length
      exact Calls.call_len_list pl.isList (by simp only [List.size_toArray]; omega) ⟨.int xs.length, H, I.tok _, ⟨_, by simp only [List.size_toArray]; rw [hlen]⟩, q⟩
    · subst e'
      obtain ⟨its, r', pl, hz⟩ := I.tuple hx
      have hlen := r'.length
      exact len_tuple pl (by simp only [List.size_toArray]; omega) ⟨.int xs.length, H, I.tok _, ⟨_, by simp only [List.size_toArray]; rw [hlen]⟩, q⟩
  | _ => exact (show False from e).elim
/-- divmod: a new tuple -/
theorem call_divmod : CallR X (.builtin "divmod") (fun xs H Q => ∃ i j, xs = [.int i, .int j] ∧ CDiv i j ∧ ∀ p, H p = none → Q (.ref p) (upd H p (.tup [.int (i / j), .int (i % j)]))) := by
  intro pins s σ H xs us Q I r h
  obtain ⟨i, j, rfl, ⟨h1, h2⟩, q⟩ := h
  obtain ⟨u, w', rfl, ⟨t, rfl⟩, ⟨t', rfl⟩⟩ := vals2 r
  refine divmod_int (by omega) ?_ (.inl (PyProof.noPylong_small (by omega)))
  rw [Int.fdiv_eq_ediv_of_nonneg i (by omega), Int.fmod_eq_emod_of_nonneg i (by omega)]
  have hn : H s.heap.objs.size = none := I.hok.fresh (Nat.le_refl _)
  refine ⟨.ref s.heap.objs.size, _, ?_, rfl, q _ hn⟩
  refine I.laid (fun b o e => Heap.get?_push_of_some _ e) (Nat.le_refl _) ⟨by simp only [List.length_cons, List.length_nil]; rw [sizeLine_eq]; decide, [.int (i / j) s.toks, .int (i % j) (s.toks + 1)], .cons ⟨_, rfl⟩ (.cons ⟨_, rfl⟩ .nil), ?_⟩
  exact ⟨_, Heap.get?_push_size s.heap rfl, rfl, 0, rfl⟩
end
end L2

namespace L2
open PySem PySem.Spec PyProof.Rows

/-! ### an instance, its attributes a map -/
structure ObjM (h : Heap) (x dx C : Addr) (mA : Str → Option Value) : Prop where
  obj : h.get? x = some (PySem.W.instObj C dx)
  ns : h.Ns1 dx mA
  ne : dx ≠ x

theorem lookIn_ns {h : Heap} {dx : Addr} {mA : Str → Option Value} (n : h.Ns1 dx mA) : ∃ od, h.get? dx = some od ∧ ∀ name, PySem.W.lookIn name od = some (mA name) := by
  obtain ⟨o, es, ep, ho, hd, hk, _, hm⟩ := n
  refine ⟨o, ho, fun name => ?_⟩
  have e := hm name
  unfold nsFind findBy at e
  rw [← Array.find?_toList] at e
  unfold PySem.W.lookIn
  rw [hd]
  dsimp only
  split
  · rename_i y q
    rw [q] at e
    exact congrArg some e
  · rename_i q
    rw [q] at e
    have a : es.toList.any (·.refKey) = false := by
      rw [List.any_eq_false]
      intro y hy
      obtain ⟨z, t, hkey⟩ := hk y (Array.mem_toList_iff.mp hy)
      simp [DictEntry.refKey, hkey]
    have a' : ¬ es.toList.any (·.refKey) = true := by rw [a]; exact Bool.false_ne_true
    rw [if_neg a']
    exact congrArg some e

theorem ObjM.look {h : Heap} {x dx C : Addr} {mA : Str → Option Value} (I : ObjM h x dx C mA) : ∃ od, PySem.W.InstAt h x (PySem.W.instObj C dx) C (some od) ∧ ∀ name, PySem.W.lookIn name od = some (mA name) :=
  let ⟨od, ho, hl⟩ := lookIn_ns I.ns
  ⟨od, ⟨I.obj, rfl, rfl, ho⟩, hl⟩

section
variable {prog : Program} {w : World} {A : Around} {E : Value → Shared → Prop} {s : Shared} {K : PySem.W.Frag} {x dx C f : Addr} {mA : Str → Option Value} {name : Str} {v : Value}

theorem get_map {expr : Bool} {Q : Value → Shared → Prop} (X : K.In s.heap) (I : ObjM s.heap x dx C mA) (hg : PySem.W.plainGet K C name = true) (hh : PySem.W.hasDictIn K C = true)
    (ha : PySem.W.findIn K (.ref C) name = some none) (hv : mA name = some v) (hv' : PySem.W.handedIn v = true) (h : Q v { s with toks := s.toks + 1 }) :
    wpAny (model prog w) A (getAttr (.ref x) name expr) Q E s := by
  obtain ⟨od, J, hl⟩ := I.look
  exact PySem.W.get_value X J (PySem.W.plainGet_of hg).1 (PySem.W.findObj_own hh ha rfl (by rw [hl, hv])) hv' h

theorem get_const {expr : Bool} {a : Value} {Q : Value → Shared → Prop} (X : K.In s.heap) (I : ObjM s.heap x dx C mA) (hg : PySem.W.plainGet K C name = true) (hh : PySem.W.hasDictIn K C = true)
    (ha : PySem.W.findIn K (.ref C) name = some (some a)) (hn : PySem.W.specialIn K a "__get__" = some none) (hc : PySem.W.copiedNames.contains name = false) (hv : mA name = none) (hv' : PySem.W.handedIn a = true)
    (h : Q a { s with toks := s.toks + 1 }) : wpAny (model prog w) A (getAttr (.ref x) name expr) Q E s := by
  obtain ⟨od, J, hl⟩ := I.look
  exact PySem.W.get_value X J (PySem.W.plainGet_of hg).1 (PySem.W.findObj_cls hh ha hn hv' hc (by rw [hl, hv])) hv' h

theorem get_meth {pl : Sem Bool} {Q : Value × List Value → Shared → Prop} (X : K.In s.heap) (I : ObjM s.heap x dx C mA) (hg : PySem.W.plainGet K C name = true)
    (hf : PySem.W.findIn K (.ref C) name = some (some (.ref f))) (ht : PySem.W.isFn K (.ref f) = true) (hv : mA name = none) (h : Q (.ref f, [.ref x]) s) :
    wpAny (model prog w) A (getMethod (.ref x) name pl) Q E s := by
  obtain ⟨od, J, hl⟩ := I.look
  exact PySem.W.method_fn X J (PySem.W.plainGet_of hg).1 (PySem.W.plainGet_of hg).2 hf (beq_iff_eq.mp ht) (by show (PySem.W.lookIn name od).map (·.isSome) = some false; rw [hl, hv]; rfl) h

theorem set_map {ns : List Str} {Q : Unit → Shared → Prop} (X : K.In s.heap) (I : ObjM s.heap x dx C mA)
    (hs : PySem.W.findIn K (.ref C) "__setattr__" = some (some (.builtin "object.__setattr__"))) (hp : PySem.W.plainOver K C = true) (ht : PySem.W.takerIn K C name = some none) (hh : PySem.W.hasDictIn K C = true)
    (hw : PySem.Within mA ns) (hsz : ns.length ≤ sizeLine)
    (h : ∀ h', ObjM h' x dx C (fun y => if y = name then some v else mA y) → Heap.SameBut dx s.heap h' → Q () { s with heap := h', toks := s.toks + 2 }) :
    wpAny (model prog w) A (setAttr (.ref x) name v) Q E s := by
  obtain ⟨od, J, hl⟩ := I.look
  refine PySem.W.set_plain X J hs (PySem.W.osa_open (s := { s with toks := s.toks + 1 }) (r := none) X J hp ht fun b => ?_)
  obtain ⟨cd, hc, hd'⟩ := PySem.W.any_some hh
  have hx : s.heap.get? x = some ⟨.ref C, some dx, .plain, #[]⟩ := I.obj
  refine wpAny_bind (wpAny_pure (wpAny_bind (wpAny_bind (wpAny_loadPart hx (wpAny_bind (PySem.W.Looks.here (s := { s with toks := s.toks + 1 }) (PySem.W.looks_clsIn X hc) ?_))))))
  rw [hd']
  refine wpAny_pure (a := some dx) (wpAny_bind (wpAny_pure (wpAny_bind ?_)))
  refine wpAny_nsSet1 (s := { s with toks := s.toks + 1 }) I.ns fun h' hn2 hs2 => ?_
  obtain ⟨oD, esD, epD, hoD, hdD, hcD⟩ := hn2.count (PySem.Within.cons name v hw)
  refine wpAny_bind (wpAny_lookBehind hoD (by rw [hdD]; exact pastItsLine_dict (Nat.le_trans hcD (by rw [List.length_cons]; omega))) ?_)
  exact wpAny_pure (h _ ⟨(hs2.2 _ (Ne.symm I.ne)).trans I.obj, hn2, I.ne⟩ hs2)

/-- C(..): the dict at the heap's end, the instance behind it; then its __init__ -/
theorem make_map {R : Result → Shared → Prop} {vs : List Value} {kw : List (Str × Value)} (X : K.In s.heap) (hm : PySem.W.makesIn K C = true)
    (hi : PySem.W.findIn K (.ref C) "__init__" = some (some (.ref f))) (hf : PySem.W.typeIn K (.ref f) = some (.type "function"))
    (h : codeAny (model prog w) (A.under (.builtin "type.__call__" ⟨.ref C :: vs, kw⟩)) (.call (.ref f) ⟨.ref (s.heap.objs.size + 1) :: vs, kw⟩) (PySem.W.InitBack (s.heap.objs.size + 1) R)
      { s with heap := (s.heap.push PySem.W.emptyDict).push (PySem.W.instObj C s.heap.objs.size) }) :
    codeAny (model prog w) A (.call (.ref C) ⟨vs, kw⟩) R s := by
  obtain ⟨hh, g, d, t, os⟩ := s
  exact PySem.W.make_core (PySem.W.makes_of X hm) (PySem.W.looks_findIn X hi) (fun self => PySem.W.bind_fn X self hf) (.inl rfl) h
/-- C() where there is no __init__ but object's -/
theorem make_map0 {R : Result → Shared → Prop} (X : K.In s.heap) (hm : PySem.W.makesIn K C = true)
    (hi : PySem.W.findIn K (.ref C) "__init__" = some (some (.builtin "object.__init__")))
    (hb : ∀ self, PySem.W.Looks (model prog w) s.heap (bindSpecial (.builtin "object.__init__") self) (.builtin "object.__init__", [self]))
    (h : codeAny (model prog w) (A.under (.builtin "type.__call__" ⟨[.ref C], []⟩)) (.call (.builtin "object.__init__") ⟨[.ref (s.heap.objs.size + 1)], []⟩) (PySem.W.InitBack (s.heap.objs.size + 1) R)
      { s with heap := (s.heap.push PySem.W.emptyDict).push (PySem.W.instObj C s.heap.objs.size) }) :
    codeAny (model prog w) A (.call (.ref C) ⟨[], []⟩) R s := by
  obtain ⟨hh, g, d, t, os⟩ := s
  exact PySem.W.make_core (PySem.W.makes_of X hm) (PySem.W.looks_findIn X hi) hb (.inr ⟨rfl, rfl⟩) h
end

/-! ### the attributes as a list of pairs -/
def putF (f : Str) (v : V) : List (Str × V) → List (Str × V)
  | [] => [(f, v)]
  | (g, x) :: r => if g = f then (g, v) :: r else (g, x) :: putF f v r
theorem lookup_putF (f g : Str) (v : V) : ∀ fs : List (Str × V), (putF f v fs).lookup g = if g = f then some v else fs.lookup g
  | [] => by
    show List.lookup g [(f, v)] = _
    by_cases h : g = f
    · have hb : (g == f) = true := beq_iff_eq.mpr h
      simp only [List.lookup, hb, if_pos h]
    · have hb : (g == f) = false := beq_eq_false_iff_ne.mpr h
      simp only [List.lookup, hb, if_neg h]
  | (k, x) :: r => by
    have ih := lookup_putF f g v r
    rw [show putF f v ((k, x) :: r) = (if k = f then (k, v) :: r else (k, x) :: putF f v r) from rfl]
    by_cases hk : k = f
    · rw [if_pos hk]
      by_cases h : g = k
      · have hb : (g == k) = true := beq_iff_eq.mpr h
        simp only [List.lookup, hb, if_pos (h.trans hk)]
      · have hb : (g == k) = false := beq_eq_false_iff_ne.mpr h
        simp only [List.lookup, hb, if_neg (fun e : g = f => h (e.trans hk.symm))]
    · rw [if_neg hk]
      by_cases h : g = k
      · have hb : (g == k) = true := beq_iff_eq.mpr h
        simp only [List.lookup, hb, if_neg (fun e : g = f => hk (h.symm.trans e))]
      · have hb : (g == k) = false := beq_eq_false_iff_ne.mpr h
        simp only [List.lookup, hb]
        exact ih
theorem keys_putF (f : Str) (v : V) : ∀ fs : List (Str × V), f ∈ (putF f v fs).map (·.1) ∧ ∀ g, g ∈ fs.map (·.1) → g ∈ (putF f v fs).map (·.1)
  | [] => ⟨by simp [putF], fun g h => by simp at h⟩
  | (k, x) :: r => by
    obtain ⟨i1, i2⟩ := keys_putF f v r
    rw [show putF f v ((k, x) :: r) = (if k = f then (k, v) :: r else (k, x) :: putF f v r) from rfl]
    by_cases hk : k = f
    · rw [if_pos hk]
      subst hk
      exact ⟨by simp, fun g h => by simpa using h⟩
    · rw [if_neg hk]
      refine ⟨?_, fun g h => ?_⟩
      · rw [List.map_cons]
        exact List.mem_cons_of_mem _ i1
      · rw [List.map_cons] at h ⊢
        rcases List.mem_cons.mp h with e | e
        · exact List.mem_cons.mpr (.inl e)
        · exact List.mem_cons_of_mem _ (i2 g e)
theorem length_putF (f : Str) (v : V) : ∀ fs : List (Str × V), (putF f v fs).length ≤ fs.length + 1
  | [] => by simp [putF]
  | (k, x) :: r => by
    have ih := length_putF f v r
    rw [show putF f v ((k, x) :: r) = (if k = f then (k, v) :: r else (k, x) :: putF f v r) from rfl]
    by_cases hk : k = f
    · rw [if_pos hk, List.length_cons, List.length_cons]; omega
    · rw [if_neg hk, List.length_cons, List.length_cons]; omega

theorem RelO.some_of {v : V} {o : Option Value} (r : RelO (some v) o) : ∃ u, o = some u ∧ RelV v u := by
  cases o with
  | none => exact (show False from r).elim
  | some u => exact ⟨u, rfl, r⟩
theorem RelO.none_of {o : Option Value} (r : RelO none o) : o = none := by
  cases o with
  | none => rfl
  | some u => exact (show False from r).elim
theorem handed_of {v : V} {u : Value} (r : RelV v u) : PySem.W.handedIn u = true := by
  cases v with
  | non => cases (show u = Value.none from r); rfl
  | bl b => cases (show u = Value.bool b from r); rfl
  | int i => obtain ⟨t, e⟩ := (show ∃ t, u = Value.int i t from r); cases e; rfl
  | str x => obtain ⟨t, e⟩ := (show ∃ t, u = Value.str x t from r); cases e; rfl
  | byt b => obtain ⟨t, e⟩ := (show ∃ t, u = Value.bytes b t from r); cases e; rfl
  | flt b => obtain ⟨t, e⟩ := (show ∃ t, u = Value.float b t from r); cases e; rfl
  | ref a => cases (show u = Value.ref a from r); rfl
  | ty n => cases (show u = Value.type n from r); rfl

section
variable {P : Program} {w : World} {H H' : Hp} {h h' : Heap} {a C dx : Addr} {fs fs' : List (Str × V)}
theorem ins_get (hok : HOk P w H h) (e : H a = some (.ins C dx fs)) : ∃ mA, ObjM h a dx C mA ∧ (∀ f, RelO (fs.lookup f) (mA f)) ∧ PySem.Within mA (fs.map (·.1)) ∧ fs.length ≤ 1000 ∧ H dx = some (.own a) := by
  obtain ⟨d, z, ne, ob, mA, n, r, q⟩ := (show ObjOk P w H h a (.ins C dx fs) from hok a _ e)
  exact ⟨mA, ⟨ob, n, ne⟩, r, q, z, d⟩
end

/-! ### what of the text a class must have -/
structure Cls (K : PySem.W.Frag) (C : Addr) : Prop where
  pg : PySem.W.plainGet K C Str.empty = true
  hd : PySem.W.hasDictIn K C = true
  po : PySem.W.plainOver K C = true
  sa : PySem.W.findIn K (.ref C) "__setattr__" = some (some (.builtin "object.__setattr__"))
theorem Cls.get {K : PySem.W.Frag} {C : Addr} (c : Cls K C) (f : Str) : PySem.W.plainGet K C f = true := c.pg
/-- no class of it has the name -/
def NoAttr (K : PySem.W.Frag) (C : Addr) (f : Str) : Prop := PySem.W.findIn K (.ref C) f = some none
theorem NoAttr.taker {K : PySem.W.Frag} {C : Addr} {f : Str} (n : NoAttr K C f) : PySem.W.takerIn K C f = some none := by
  unfold PySem.W.takerIn
  rw [show PySem.W.findIn K (.ref C) f = some none from n]
  rfl
/-- a constant of the class -/
structure Con (K : PySem.W.Frag) (C : Addr) (f : Str) (v : V) (u : Value) : Prop where
  at_ : PySem.W.findIn K (.ref C) f = some (some u)
  rel : RelV v u
  get : PySem.W.specialIn K u "__get__" = some none
  cp : PySem.W.copiedNames.contains f = false
/-- a method: a plain def of the class or of one above it -/
structure Meth (K : PySem.W.Frag) (C : Addr) (m : Str) (f : Addr) : Prop where
  at_ : PySem.W.findIn K (.ref C) m = some (some (.ref f))
  fn : PySem.W.isFn K (.ref f) = true
  kp : PySem.W.keepIn K (.ref f) = true

section
variable {X : Cx} {pins : List (Addr × Obj)} {σ : St} {H : Hp} {s : Shared} {a C dx : Addr} {fs : List (Str × V)} {f : Str} {v : V} {A : Around} {E : Value → Shared → Prop}

theorem getattr_ok {b : Bool} {Q : Value → Shared → Prop} (I : Inv X pins σ H s) (e : H a = some (.ins C dx fs)) (c : Cls X.K C) (n : NoAttr X.K C f) (l : fs.lookup f = some v)
    (h : ∀ u s', Inv X pins σ H s' → RelV v u → Q u s') : wpAny (model X.prog X.w) A (getAttr (.ref a) f b) Q E s := by
  obtain ⟨mA, O, r, _, _, _⟩ := ins_get I.hok e
  obtain ⟨u, hu, ru⟩ := RelO.some_of (v := v) (o := mA f) (by rw [← l]; exact r f)
  exact get_map I.kIn O (c.get f) c.hd n hu (handed_of ru) (h u _ (I.tok _) ru)

theorem getcon_ok {b : Bool} {u : Value} {Q : Value → Shared → Prop} (I : Inv X pins σ H s) (e : H a = some (.ins C dx fs)) (c : Cls X.K C) (k : Con X.K C f v u) (l : fs.lookup f = none)
    (h : ∀ s', Inv X pins σ H s' → Q u s') : wpAny (model X.prog X.w) A (getAttr (.ref a) f b) Q E s := by
  obtain ⟨mA, O, r, _, _, _⟩ := ins_get I.hok e
  have hn : mA f = none := RelO.none_of (by rw [← l]; exact r f)
  exact get_const I.kIn O (c.get f) c.hd k.at_ k.get k.cp hn (handed_of k.rel) (h _ (I.tok _))

theorem getmeth_ok {m : Str} {g : Addr} {pl : Sem Bool} {Q : Value × List Value → Shared → Prop} (I : Inv X pins σ H s) (e : H a = some (.ins C dx fs)) (c : Cls X.K C) (k : Meth X.K C m g) (l : fs.lookup m = none)
    (h : Q (.ref g, [.ref a]) s) : wpAny (model X.prog X.w) A (getMethod (.ref a) m pl) Q E s := by
  obtain ⟨mA, O, r, _, _, _⟩ := ins_get I.hok e
  have hn : mA m = none := RelO.none_of (by rw [← l]; exact r m)
  exact get_meth I.kIn O (c.get m) k.at_ k.fn hn h

theorem setattr_ok {y : V} {u : Value} {Q : Unit → Shared → Prop} (I : Inv X pins σ H s) (e : H a = some (.ins C dx fs)) (c : Cls X.K C) (n : NoAttr X.K C f) (hl : fs.length < 1000) (ry : RelV y u)
    (h : ∀ s', Inv X pins σ (upd H a (.ins C dx (putF f y fs))) s' → Q () s') : wpAny (model X.prog X.w) A (setAttr (.ref a) f u) Q E s := by
  obtain ⟨mA, O, r, wi, _, ho⟩ := ins_get I.hok e
  have hz : (fs.map (·.1)).length ≤ sizeLine := by rw [List.length_map, sizeLine_eq]; omega
  refine set_map I.kIn O c.sa c.po n.taker c.hd wi hz fun h' O' sb => h _ ?_
  have hd : ∃ o, h'.get? dx = some o := let ⟨o, _, _, e', _⟩ := O'.ns; ⟨o, e'⟩
  refine I.write (x := a) (e := dx) (by rw [e]; exact True.intro) (.inr ho) (fun b q hb z => (sb.2 b hb).trans z) hd ?_
  refine ⟨by rw [upd_ne O.ne]; exact ho, ?_, O.ne, O'.obj, _, O'.ns, fun g => ?_, fun g hg => ?_⟩
  · have := length_putF f y fs; omega
  · show RelO ((putF f y fs).lookup g) (if g = f then some u else mA g)
    rw [lookup_putF]
    by_cases q : g = f
    · rw [if_pos q, if_pos q]; exact ry
    · rw [if_neg q, if_neg q]; exact r g
  · by_cases q : g = f
    · rw [q]; exact (keys_putF f y fs).1
    · refine (keys_putF f y fs).2 g (wi g fun z => hg ?_)
      show (if g = f then some u else mA g) = none
      rw [if_neg q]; exact z

/-- a new instance, tracked, without attributes -/
theorem Inv.made (I : Inv X pins σ H s) : Inv X pins σ (upd (upd H s.heap.objs.size (.own (s.heap.objs.size + 1))) (s.heap.objs.size + 1) (.ins C s.heap.objs.size []))
    { s with heap := (s.heap.push PySem.W.emptyDict).push (PySem.W.instObj C s.heap.objs.size) } := by
  have e1 : (s.heap.push PySem.W.emptyDict).get? s.heap.objs.size = some PySem.W.emptyDict := Heap.get?_push_size s.heap rfl
  have e2 : ((s.heap.push PySem.W.emptyDict).push (PySem.W.instObj C s.heap.objs.size)).get? (s.heap.objs.size + 1) = some (PySem.W.instObj C s.heap.objs.size) := by
    have := Heap.get?_push_size (s.heap.push PySem.W.emptyDict) (o := PySem.W.instObj C s.heap.objs.size) rfl
    rwa [Heap.size_push] at this
  have e3 : (s.heap.push PySem.W.emptyDict).Ns s.heap.objs.size (fun _ => none) := ⟨PySem.W.emptyDict, #[], _, e1, rfl, (fun e he => absurd he (by simp)), fun _ => rfl⟩
  have I1 := I.laid (a := s.heap.objs.size) (o := .own (s.heap.objs.size + 1)) (h' := s.heap.push PySem.W.emptyDict) (t' := s.toks) (fun b u q => Heap.get?_push_of_some _ q) (Nat.le_refl _) ⟨_, e1⟩
  refine I1.laid (a := s.heap.objs.size + 1) (o := .ins C s.heap.objs.size []) (t' := s.toks) (fun b u q => Heap.get?_push_of_some _ q) (Nat.le_of_eq (Heap.size_push _ _)) ?_
  have ne : s.heap.objs.size ≠ s.heap.objs.size + 1 := Nat.ne_of_lt (Nat.lt_succ_self _)
  refine ⟨by rw [upd_ne ne, upd_same], Nat.zero_le _, ne, e2, fun _ => none, (Heap.Ns1.of_empty e3).at fun o q => Heap.get?_push_of_some _ q, fun _ => True.intro, fun y hy => absurd rfl hy⟩

/-- e.f where nothing but the object is asked: through attributeBase (super) and the last hold -/
theorem attr_of {prog : Program} {w : World} {env : Env} {e : Expr} {f : Str} {pos : Pos} {s : Shared} {Q : Value → Shared → Prop} (hb : attributeBase e f env (eval e env) = eval e env)
    (h : wpAny (model prog w) A (eval e env) (fun o s₁ => wpAny (model prog w) A (getAttr o f true) Q E s₁) E s) : wpAny (model prog w) A (eval (.Attribute e f pos) env) Q E s :=
  Attribute_any_ h (by rw [arm_eval_Attribute, hb])
end

/-! ### readings and rules -/
/-- e.f, an attribute of the instance -/
def tFld (K : PySem.W.Frag) (ta : TE) (f : Str) : TE := fun σ H Q => ta σ H fun x H1 => ∃ a C dx fs v, x = .ref a ∧ H1 a = some (.ins C dx fs) ∧ Cls K C ∧ NoAttr K C f ∧ fs.lookup f = some v ∧ Q v H1
/-- e.f, a constant of the class -/
def tCon (K : PySem.W.Frag) (ta : TE) (f : Str) : TE := fun σ H Q => ta σ H fun x H1 => ∃ a C dx fs v u, x = .ref a ∧ H1 a = some (.ins C dx fs) ∧ Cls K C ∧ Con K C f v u ∧ fs.lookup f = none ∧ Q v H1
/-- e.f = value -/
def sFld (K : PySem.W.Frag) (ta tv : TE) (f : Str) : TS := fun D σ H => tv σ H fun y H1 => ta σ H1 fun x H2 => ∃ a C dx fs, x = .ref a ∧ H2 a = some (.ins C dx fs) ∧ Cls K C ∧ NoAttr K C f ∧ fs.length < 1000 ∧
  D.nx σ (upd H2 a (.ins C dx (putF f y fs)))
/-- an augmented operator on two values -/
def InOp (X : Cx) (op : Operator) (rd : V → V → Hp → VK → Prop) : Prop :=
  ∀ (pins : List (Addr × Obj)) (s : Shared) (σ : St) (H : Hp) (x y : V) (u v : Value) (Q : VK), Inv X pins σ H s → RelV x u → RelV y v → rd x y H Q → wpAny (model X.prog X.w) X.A (inplaceOp op u v) (EP X pins σ Q) X.xe s
/-- e.f op= value -/
def sFldAug (K : PySem.W.Frag) (ta tv : TE) (rd : V → V → Hp → VK → Prop) (f : Str) : TS := fun D σ H => ta σ H fun x H1 => ∃ a C dx fs v, x = .ref a ∧ H1 a = some (.ins C dx fs) ∧ Cls K C ∧ NoAttr K C f ∧ fs.lookup f = some v ∧
  tv σ H1 fun y H2 => rd v y H2 fun z H3 => ∃ dx' fs', H3 a = some (.ins C dx' fs') ∧ fs'.length < 1000 ∧ D.nx σ (upd H3 a (.ins C dx' (putF f z fs')))

section
variable {X : Cx} {o e value : Expr} {f : Str} {pos pos' tpos : Pos} {ta tv : TE}
theorem pe_fld (he : PE X e ta) (hb : attributeBase e f X.env (eval e X.env) = eval e X.env) : PE X (.Attribute e f pos) (tFld X.K ta f) := by
  intro pins s σ H Q I h
  refine attr_of hb (thn (he pins s σ H _ I h) fun u s1 ⟨x, H1, I1, rx, a, C, dx, fs, v, ex, ea, c, n, l, q⟩ => ?_)
  subst ex
  obtain rfl : u = Value.ref a := rx
  exact getattr_ok I1 ea c n l fun u' s2 I2 ru => ⟨v, H1, I2, ru, q⟩
theorem pe_con (he : PE X e ta) (hb : attributeBase e f X.env (eval e X.env) = eval e X.env) : PE X (.Attribute e f pos) (tCon X.K ta f) := by
  intro pins s σ H Q I h
  refine attr_of hb (thn (he pins s σ H _ I h) fun u s1 ⟨x, H1, I1, rx, a, C, dx, fs, v, u0, ex, ea, c, k, l, q⟩ => ?_)
  subst ex
  obtain rfl : u = Value.ref a := rx
  exact getcon_ok I1 ea c k l fun s2 I2 => ⟨v, H1, I2, k.rel, q⟩
theorem ps_fld (ha : PE X o ta) (hv : PE X value tv) (hs : swapsWith value (some (.Attribute o f pos')) pos.line X.env = pure false) : PS X (.Assign [.Attribute o f pos'] value pos) (sFld X.K ta tv f) := by
  intro pins s σ H D I h
  refine plainObj_wpAny_Assign_Attribute (thn (hv pins s σ H _ I h) fun u s1 ⟨y, H1, I1, ry, q⟩ => thn (ha pins s1 σ H1 _ I1 q) fun ov s2 ⟨x, H2, I2, rx, a, C, dx, fs, ex, ea, c, n, l, q2⟩ => ?_) hs
  subst ex
  obtain rfl : ov = Value.ref a := rx
  exact setattr_ok I2 ea c n l ry fun s3 I3 => ⟨σ, _, I3, q2⟩
theorem ps_fldaug {op : Operator} {rd : V → V → Hp → VK → Prop} (ha : PE X o ta) (hv : PE X value tv) (hop : InOp X op rd) : PS X (.AugAssign (.Attribute o f tpos) op value pos) (sFldAug X.K ta tv rd f) := by
  intro pins s σ H D I h
  refine wpAny_AugAssign_AttributeAny (thn (ha pins s σ H _ I h) fun ov s1 ⟨x, H1, I1, rx, a, C, dx, fs, v, ex, ea, c, n, l, q⟩ => ?_)
  subst ex
  obtain rfl : ov = Value.ref a := rx
  refine getattr_ok I1 ea c n l fun u s2 I2 ru => thn (hv pins s2 σ H1 _ I2 q) fun w3 s3 ⟨y, H2, I3, ry, q3⟩ => thn (hop pins s3 σ H2 v y u w3 _ I3 ru ry q3) fun w4 s4 ⟨z, H3, I4, rz, dx', fs', ea', l', q4⟩ => ?_
  exact setattr_ok I4 ea' c n l' rz fun s5 I5 => ⟨σ, _, I5, q4⟩
def rAdd : V → V → Hp → VK → Prop := fun x y H Q => ∃ i j, x = .int i ∧ y = .int j ∧ Q (.int (i + j)) H
def rSub : V → V → Hp → VK → Prop := fun x y H Q => ∃ i j, x = .int i ∧ y = .int j ∧ Q (.int (i - j)) H
theorem in_add : InOp X .Add rAdd := by
  rintro pins s σ H x y u v Q I rx ry ⟨i, j, rfl, rfl, q⟩
  obtain ⟨t, rfl⟩ := (show ∃ t, u = Value.int i t from rx)
  obtain ⟨t', rfl⟩ := (show ∃ t', v = Value.int j t' from ry)
  exact PyProof.Rows.iadd_int ⟨.int (i + j), H, I.tok _, ⟨_, rfl⟩, q⟩
theorem in_sub : InOp X .Sub rSub := by
  rintro pins s σ H x y u v Q I rx ry ⟨i, j, rfl, rfl, q⟩
  obtain ⟨t, rfl⟩ := (show ∃ t, u = Value.int i t from rx)
  obtain ⟨t', rfl⟩ := (show ∃ t', v = Value.int j t' from ry)
  exact PyProof.Rows.isub_int ⟨.int (i - j), H, I.tok _, ⟨_, rfl⟩, q⟩

/-- what is between an instance and its method: the tree of a method call -/
theorem methcall_of {pl : Sem Bool} {m : Str} {apos : Pos} {args : List Expr} {pins : List (Addr × Obj)} {s : Shared} {σ : St} {H : Hp} {Q : Value → Shared → Prop} {te : TE} (he : PE X e te) (I : Inv X pins σ H s)
    (h : te σ H fun x H1 => ∃ a C dx fs g, x = .ref a ∧ H1 a = some (.ins C dx fs) ∧ Cls X.K C ∧ Meth X.K C m g ∧ fs.lookup m = none ∧
      ∀ s1, Inv X pins σ H1 s1 → wpAny (model X.prog X.w) X.A (callWith pos (.ref g) [.ref a] (backTo pos (starEach args X.env)) (backToKw pos (keywordEach [] X.env))) Q X.xe s1)
    (ht : eval (.Call (.Attribute e m apos) args [] pos) X.env = (do
      let ov ← eval e X.env
      standAt apos.atName
      let (f, first) ← holding [ov] (getMethod ov m pl)
      callWith pos f first (backTo pos (starEach args X.env)) (backToKw pos (keywordEach [] X.env)))) :
    wpAny (model X.prog X.w) X.A (eval (.Call (.Attribute e m apos) args [] pos) X.env) Q X.xe s := by
  refine PySem.W.methodCall_KW (pl := pl) (thn (he pins s σ H _ I h) fun u s1 ⟨x, H1, I1, rx, a, C, dx, fs, g, ex, ea, c, k, l, q⟩ => ?_) ht
  subst ex
  obtain rfl : u = Value.ref a := rx
  exact getmeth_ok I1 ea c k l (q s1 I1)
end

/-! ### isinstance -/
section
variable {X : Cx} {pins : List (Addr × Obj)} {σ : St} {H : Hp} {s : Shared} {A : Around} {E : Value → Shared → Prop} {Q : Value → Shared → Prop} {c : Value} {b : Bool}
/-- the type of a value, as the fragment's deciders take it; for an instance its class -/
inductive TyOf (K : PySem.W.Frag) (H : Hp) : V → Value → Prop where
  | non : TyOf K H .non (.type "NoneType")
  | bl (x : Bool) : TyOf K H (.bl x) (.type "bool")
  | int (i : Int) : TyOf K H (.int i) (.type "int")
  | str (x : Str) : TyOf K H (.str x) (.type "str")
  | flt (x : UInt64) : TyOf K H (.flt x) (.type "float")
  | lst {a : Addr} {xs : List V} (e : H a = some (.lst xs)) : TyOf K H (.ref a) (.type "list")
  | frz {a : Addr} {o : Obj} {xs : List V} (e : H a = some (.frz o (.lst xs))) : TyOf K H (.ref a) (.type "list")
  | tup {a : Addr} {xs : List V} (e : H a = some (.tup xs)) : TyOf K H (.ref a) (.type "tuple")
  | dK {a : Addr} {kvs : List (Key × V)} (e : H a = some (.dK kvs)) : TyOf K H (.ref a) (.type "dict")
  | dT {a : Addr} {kvs : List (List Key × V)} (e : H a = some (.dT kvs)) : TyOf K H (.ref a) (.type "dict")
  | ins {a C dx : Addr} {fs : List (Str × V)} (e : H a = some (.ins C dx fs)) (cl : Cls K C) (ha : PySem.W.findIn K (.ref C) "__class__" = some (some (.builtin "object.__class__")))
      (hn : PySem.W.specialIn K (.builtin "object.__class__") "__get__" = some (some (.builtin "getset_descriptor.__get__"))) (htk : PySem.W.takesIn K (.builtin "object.__class__") = some true)
      (hm : PySem.W.mroIn K C (.type "object") = some true) : TyOf K H (.ref a) (.ref C)
/-- isinstance(x, c) for one class c, a built-in or an own one: kitOne's answer -/
theorem isinst_ok {x : V} {u t : Value} (I : Inv X pins σ H s) (rx : RelV x u) (ty : TyOf X.K H x t) (e : PySem.W.kitOne X.K t c = some b) (h : ∀ tk, Q (.bool b) { s with toks := tk }) :
    wpAny (model X.prog X.w) A (call (.builtin "isinstance") [u, c]) Q E s := by
  cases ty with
  | non => cases (show u = Value.none from rx); exact PySem.W.kia_one PySem.W.kitx_none I.kIn True.intro e (fun z => nomatch z) h
  | bl y => cases (show u = Value.bool y from rx); exact PySem.W.kia_one PySem.W.kitx_bool I.kIn True.intro e (fun z => nomatch z) h
  | int i => obtain ⟨t, q⟩ := (show ∃ t, u = Value.int i t from rx); cases q; exact PySem.W.kia_one PySem.W.kitx_int I.kIn True.intro e (fun z => nomatch z) h
  | str y => obtain ⟨t, q⟩ := (show ∃ t, u = Value.str y t from rx); cases q; exact PySem.W.kia_one PySem.W.kitx_str I.kIn True.intro e (fun z => nomatch z) h
  | flt y => obtain ⟨t, q⟩ := (show ∃ t, u = Value.float y t from rx); cases q; exact PySem.W.kia_one PySem.W.kitx_float I.kIn True.intro e (fun z => nomatch z) h
  | @lst a xs ea =>
    cases (show u = Value.ref a from rx)
    obtain ⟨_, _, n, _, h1⟩ := (show ObjOk X.prog X.w H s.heap a (.lst xs) from I.hok a _ ea)
    exact PySem.W.kia_one PySem.W.kitx_list I.kIn ⟨_, h1, rfl⟩ e (fun z => nomatch z) h
  | @frz a ob xs ea =>
    cases (show u = Value.ref a from rx)
    obtain ⟨_, _, _, n, _, h1⟩ := (show ObjOk X.prog X.w H s.heap a (.frz ob (.lst xs)) from I.hok a _ ea)
    exact PySem.W.kia_one PySem.W.kitx_list I.kIn ⟨_, h1, rfl⟩ e (fun z => nomatch z) h
  | @tup a xs ea =>
    cases (show u = Value.ref a from rx)
    obtain ⟨_, _, _, p⟩ := (show ObjOk X.prog X.w H s.heap a (.tup xs) from I.hok a _ ea)
    obtain ⟨o, h1, h2, _⟩ := p
    exact PySem.W.kia_one PySem.W.kitx_tuple I.kIn ⟨o, h1, h2⟩ e (fun z => nomatch z) h
  | @dK a kvs ea =>
    cases (show u = Value.ref a from rx)
    obtain ⟨_, _, vs, _, p⟩ := (show ObjOk X.prog X.w H s.heap a (.dK kvs) from I.hok a _ ea)
    obtain ⟨o, es, ep, h1, h2, _⟩ := p
    exact PySem.W.kia_one PySem.W.kitx_dict I.kIn ⟨o, h1, h2.1⟩ e (fun z => nomatch z) h
  | @dT a kvs ea =>
    cases (show u = Value.ref a from rx)
    obtain ⟨_, _, xs, _, o, es, ep, h1, h2, _⟩ := (show ObjOk X.prog X.w H s.heap a (.dT kvs) from I.hok a _ ea)
    exact PySem.W.kia_one PySem.W.kitx_dict I.kIn ⟨o, h1, h2.1⟩ e (fun z => nomatch z) h
  | @ins a C dx fs ea cl ha hn htk hm =>
    cases (show u = Value.ref a from rx)
    obtain ⟨mA, O, _⟩ := ins_get I.hok ea
    obtain ⟨od, J, _⟩ := O.look
    exact PySem.W.kia_one (PySem.W.kitx_own (cl.get _) cl.hd ha hn htk hm) I.kIn J e (fun z => nomatch z) h
end
end L2

namespace L2
open PySem PySem.Spec PyProof.Rows

/-! ### room -/
structure Room (k : Nat) (A : Around) : Prop where
  hd : A.handled = none
  dp : A.depth + 3 * k + 5 < recursionLimit
  un : A.units + 16 * k + 200 < cLine
theorem Room.mono {j k : Nat} {A : Around} (r : Room k A) (h : j ≤ k) : Room j A := ⟨r.hd, by have := r.dp; omega, by have := r.un; omega⟩
theorem Room.deeper {k : Nat} {A : Around} (r : Room (k + 1) A) (env : Env) : Room k (A.deeper env) :=
  ⟨r.hd, by have := r.dp; show A.depth + 1 + 3 * k + 5 < _; omega, by have := r.un; show A.units + 3 + 16 * k + 200 < _; omega⟩
theorem Room.in1 {k : Nat} {A : Around} (r : Room (k + 1) A) : Room k A.in1 :=
  ⟨r.hd, by have := r.dp; show A.depth + 3 * k + 5 < _; omega, by have := r.un; show A.units + 1 + 16 * k + 200 < _; omega⟩
theorem make_depth {A : Around} {C : Addr} {us : List Value} {kw : List (Str × Value)} : (A.under (.builtin "type.__call__" ⟨.ref C :: us, kw⟩)).depth = A.depth + 1 := by
  first | rfl | simp [Around.under, Code.weight, Code.isCreation, Code.isGuard, Code.isCaller, Code.frames, Code.isFrame, guardIds]
theorem make_units {A : Around} {C : Addr} {us : List Value} {kw : List (Str × Value)} : (A.under (.builtin "type.__call__" ⟨.ref C :: us, kw⟩)).units = A.units + 1 := by
  first | rfl | simp [Around.under, Code.cUnits, Code.frames, Code.isFrame]
theorem Room.make {k : Nat} {A : Around} (r : Room (k + 1) A) (C : Addr) (us : List Value) (kw : List (Str × Value)) : Room k (A.under (.builtin "type.__call__" ⟨.ref C :: us, kw⟩)) :=
  ⟨r.hd, by have := r.dp; rw [make_depth]; omega, by have := r.un; rw [make_units]; omega⟩
theorem Room.depth {k : Nat} {A : Around} (r : Room k A) : A.depth < recursionLimit := by have := r.dp; omega
theorem Room.units {k : Nat} {A : Around} (r : Room k A) : A.units + 64 < cLine := by have := r.un; omega
theorem Room.units0 {k : Nat} {A : Around} (r : Room k A) : A.units < cLine := by have := r.un; omega

/-! ### argument lists and displays -/
def tNil : TA := fun _ H Q => Q [] H
def tCons (ta : TE) (tr : TA) : TA := fun σ H Q => ta σ H fun x H1 => tr σ H1 fun xs H2 => Q (x :: xs) H2
section
variable {X : Cx} {e : Expr} {es : List Expr} {te : TE} {t : TA} {pos : Pos}
theorem pa_nil : PA X [] tNil := fun _ _ _ _ H Q I h => Calls.spliced_nil ⟨[], H, I, .nil, h⟩
theorem pa_cons (ha : PE X e te) (hr : PA X es t) (hs : starEach (e :: es) X.env = (false, eval e X.env) :: starEach es X.env := by rfl) : PA X (e :: es) (tCons te t) := by
  intro pos pins s σ H Q I h
  rw [hs]
  show wpAny _ _ (spliced ((false, eval e X.env) :: backTo pos (starEach es X.env))) _ _ s
  refine Calls.spliced_cons (thn (ha pins s σ H _ I h) fun u s1 ⟨x, H1, I1, r1, q1⟩ => ?_)
  exact thn (hr pos pins s1 σ H1 _ I1 q1) fun us s2 ⟨xs, H2, I2, r2, q2⟩ => ⟨x :: xs, H2, I2, .cons r1 r2, q2⟩

/-- a tuple, a list of written items -/
def tTup (t : TA) : TE := fun σ H Q => t σ H fun xs H1 => xs.length ≤ sizeLine ∧ ∀ p, H1 p = none → Q (.ref p) (upd H1 p (.tup xs))
def tLst (t : TA) : TE := fun σ H Q => t σ H fun xs H1 => xs.length ≤ sizeLine ∧ ∀ p, H1 p = none → Q (.ref p) (upd H1 p (.lst xs))
theorem pe_tup {x1} (h : PA X es t) : PE X (.Tuple es x1 pos) (tTup t) := by
  intro pins s σ H Q I hq
  refine wpAny_Tuple_spliced (thn (h pos pins s σ H _ I hq) fun us s1 ⟨xs, H1, I1, r, z, q⟩ => ⟨by rw [← r.length]; exact z, ?_⟩)
  have hf : H1 s1.heap.objs.size = none := I1.hok.fresh (Nat.le_refl _)
  refine ⟨.ref s1.heap.objs.size, upd H1 s1.heap.objs.size (.tup xs), I1.laid (t' := s1.toks) (fun b u e => Heap.get?_push_of_some _ e) (Nat.le_refl _) ?_, rfl, q _ hf⟩
  exact ⟨z, us, r, ⟨_, Heap.get?_push_size _ rfl, rfl, _, rfl⟩⟩
theorem pe_lst (h : PA X es t) : PE X (.List es pos) (tLst t) := by
  intro pins s σ H Q I hq
  refine wpAny_List_spliced (thn (h pos pins s σ H _ I hq) fun us s1 ⟨xs, H1, I1, r, z, q⟩ => ⟨by rw [← r.length]; exact z, ?_⟩)
  have hf : H1 s1.heap.objs.size = none := I1.hok.fresh (Nat.le_refl _)
  refine ⟨.ref s1.heap.objs.size, upd H1 s1.heap.objs.size (.lst xs), I1.laid (t' := s1.toks) (fun b u e => Heap.get?_push_of_some _ e) (Nat.le_refl _) ?_, rfl, q _ hf⟩
  exact ⟨z, us, 0, r, Heap.get?_push_size _ rfl⟩
end

/-! ### what a def promises -/
/-- a def's promise: the bound arguments in the parameters' order, the heap, the wanted end, the wanted exception -/
abbrev Sp := List V → Hp → VK → XK → Prop
/-- how an exception lies behind a call (file 08 gives it): the callers' frames, abstract heap and state ahead of the call, the wish, the exception, the state -/
abbrev CXT := List Env → Hp → Shared → XK → Value → Shared → Prop

/-- the state at a call -/
structure Env0 (P : Program) (w : World) (K : PySem.W.Frag) (mg : Str → Option Value) (base : Heap) (A : Around) (outer : List Env) (s : Shared) (H : Hp) : Prop where
  frames : A.frames = some outer
  mod : Mod K mg base
  bs : ∀ b o, base.get? b = some o → s.heap.get? b = some o ∧ H b = none
  bsz : base.objs.size ≤ s.heap.objs.size
  funs : s.heap.FunFrames base outer
  frf : ∀ b ∈ frs outer, H b = none
  hok : HOk P w H s.heap
  bare : AllBare s.gens
/-- a call's end -/
def CE (outer : List Env) (P : Program) (w : World) (H : Hp) (s : Shared) (Q : VK) (u : Value) (s' : Shared) : Prop :=
  ∃ v H', s'.os = s.os ∧ AllBare s'.gens ∧ Un (frs outer) [] H H' s.heap s'.heap ∧ HOk P w H' s'.heap ∧ RelV v u ∧ Q v H'
def CR (CX : CXT) (outer : List Env) (P : Program) (w : World) (H : Hp) (s : Shared) (Q : VK) (E : XK) (r : Result) (s' : Shared) : Prop :=
  match r with
  | .ok (.ret u) => CE outer P w H s Q u s'
  | .ok _ => False
  | .error e => CX outer H s E e s'
structure FnOk (P : Program) (w : World) (K : PySem.W.Frag) (mg : Str → Option Value) (base : Heap) (CX : CXT) (k : Nat) (f : Addr) (fd : FuncData) (ps : List Str) (sp : Sp) : Prop where
  len : ∀ vs H Q E, sp vs H Q E → vs.length = ps.length
  run : ∀ (A : Around) (outer : List Env) (s : Shared) (H : Hp) (args : Args) (us : List Value) (vs : List V) (Q : VK) (E : XK), Room k A → Env0 P w K mg base A outer s H → BindsTo s fd args (ps.zip us) → Vals vs us → sp vs H Q E →
    codeAny (model P w) A (.call (.ref f) args) (CR CX outer P w H s Q E) s
theorem FnOk.mono {P : Program} {w : World} {K : PySem.W.Frag} {mg : Str → Option Value} {base : Heap} {CX : CXT} {j k : Nat} {f : Addr} {fd : FuncData} {ps : List Str} {sp : Sp} (F : FnOk P w K mg base CX j f fd ps sp) (h : j ≤ k) :
    FnOk P w K mg base CX k f fd ps sp := ⟨F.len, fun A outer s H args us vs Q E hr => F.run A outer s H args us vs Q E (hr.mono h)⟩
/-- a weaker promise -/
theorem FnOk.imp {P : Program} {w : World} {K : PySem.W.Frag} {mg : Str → Option Value} {base : Heap} {CX : CXT} {k : Nat} {f : Addr} {fd : FuncData} {ps : List Str} {sp sp' : Sp} (F : FnOk P w K mg base CX k f fd ps sp)
    (h : ∀ vs H Q E, sp' vs H Q E → sp vs H Q E) : FnOk P w K mg base CX k f fd ps sp' :=
  ⟨fun vs H Q E q => F.len vs H Q E (h _ _ _ _ q), fun A outer s H args us vs Q E hr he hb hv hs => F.run A outer s H args us vs Q E hr he hb hv (h _ _ _ _ hs)⟩

theorem Env0.make {P : Program} {w : World} {K : PySem.W.Frag} {mg : Str → Option Value} {base : Heap} {A : Around} {outer : List Env} {s : Shared} {H : Hp} (e : Env0 P w K mg base A outer s H) (C : Addr) (us : List Value) (kw : List (Str × Value)) :
    Env0 P w K mg base (A.under (.builtin "type.__call__" ⟨.ref C :: us, kw⟩)) outer s H := ⟨by first | exact e.frames | (simpa [Around.under, Code.envs, Code.isFrame, pushEnvs] using e.frames), e.mod, e.bs, e.bsz, e.funs, e.frf, e.hok, e.bare⟩
theorem Env0.in1 {P : Program} {w : World} {K : PySem.W.Frag} {mg : Str → Option Value} {base : Heap} {A : Around} {outer : List Env} {s : Shared} {H : Hp} (e : Env0 P w K mg base A outer s H) :
    Env0 P w K mg base A.in1 outer s H := ⟨e.frames, e.mod, e.bs, e.bsz, e.funs, e.frf, e.hok, e.bare⟩

section
variable {X : Cx} {pins : List (Addr × Obj)} {σ : St} {H : Hp} {s s' : Shared}
/-- from a body: what a callee wants -/
theorem Inv.env0 (I : Inv X pins σ H s) : Env0 X.prog X.w X.K X.mg X.base X.A X.stack s H :=
  ⟨I.ok.frames, I.ok.mod, I.bs, Nat.le_trans I.ok.bsz I.sz, I.stack, I.stkFree, I.hok, I.bare⟩
/-- behind a call -/
theorem Inv.after {Q : VK} {u : Value} (I : Inv X pins σ H s) (h : CE X.stack X.prog X.w H s Q u s') : EP X pins σ Q u s' := by
  obtain ⟨v, H', os, bare, un, hok, r, q⟩ := h
  obtain ⟨hh, g, d, t, os'⟩ := s'
  obtain rfl : os' = s.os := os
  exact ⟨v, H', I.call (h' := hh) (g' := g) (d' := d) (t' := t) (ch := []) un hok bare (fun b z => absurd z (by simp)), r, q⟩
end

/-! ### calls -/
/-- f(..): the written arguments, then the defaults dvs; E: what is wanted of an exception -/
def tCall (sp : Sp) (dvs : List V) (E : XK) (t : TA) : TE := fun σ H Q => t σ H fun vs H1 => sp (vs ++ dvs) H1 Q E
/-- o.m(..) of an instance of the class at C -/
def tMeth (C : Addr) (m : Str) (sp : Sp) (dvs : List V) (E : XK) (ta : TE) (t : TA) : TE := fun σ H Q => ta σ H fun x H1 => ∃ a dx fs, x = .ref a ∧ H1 a = some (.ins C dx fs) ∧ fs.lookup m = none ∧
  t σ H1 fun vs H2 => sp (x :: (vs ++ dvs)) H2 Q E
/-- C(..): a new instance and its dict, then __init__ -/
def tMake (C : Addr) (sp : Sp) (dvs : List V) (E : XK) (t : TA) : TE := fun σ H Q => t σ H fun vs H1 => ∀ x dx, H1 x = none → H1 dx = none → dx ≠ x →
  sp (.ref x :: (vs ++ dvs)) (upd (upd H1 dx (.own x)) x (.ins C dx [])) (fun v H2 => v = .non ∧ Q (.ref x) H2) E

/-- how the parameters are bound: us the positional arguments, kw the keywords' values by name, ds the defaults that fill up -/
def Binds (K : PySem.W.Frag) (fd : FuncData) (ps : List Str) (ds : List Value) : Prop :=
  ∀ (s : Shared) (us : List Value), K.In s.heap → (us ++ ds).length = ps.length → BindsTo s fd ⟨us, []⟩ (ps.zip (us ++ ds))
/-- every parameter is given -/
theorem Binds.all {K : PySem.W.Frag} {fd : FuncData} {ps : List Str} (h : ∀ us : List Value, us.length = ps.length → bindArgs fd ⟨us, []⟩ = pure (ps.zip us)) : Binds K fd ps [] := fun s us _ hl => by
  rw [List.append_nil] at hl ⊢
  exact .of_eq (h us hl)

/-- an exception of a callee reaches what this body wants of exceptions -/
def Passes (CX : CXT) (X : Cx) (E : XK) : Prop := ∀ (pins : List (Addr × Obj)) (σ : St) (H : Hp) (s : Shared) (e : Value) (s' : Shared), Inv X pins σ H s → CX X.stack H s E e s' → X.xe e s'

section
variable {X : Cx} {CX : CXT} {k : Nat} {f C : Addr} {fd : FuncData} {ps : List Str} {sp : Sp} {dvs : List V} {ds : List Value} {E : XK} {x m : Str} {p pos apos : Pos} {e o : Expr} {es : List Expr} {ta : TE} {t : TA}

/-- the callee runs -/
theorem run_fn {pins : List (Addr × Obj)} {σ : St} {H : Hp} {s : Shared} {Q : VK} {us : List Value} {vs : List V} (F : FnOk X.prog X.w X.K X.mg X.base CX k f fd ps sp) (hr : Room k X.A) (hb : Binds X.K fd ps ds) (hd : Vals dvs ds) (hx : Passes CX X E)
    (I : Inv X pins σ H s) (r : Vals vs us) (h : sp (vs ++ dvs) H Q E) : wpAny (model X.prog X.w) X.A (call (.ref f) us) (EP X pins σ Q) X.xe s := by
  have r2 : Vals (vs ++ dvs) (us ++ ds) := r.append hd
  have hl : (us ++ ds).length = ps.length := by rw [← r2.length]; exact F.len _ _ _ _ h
  refine wpAny_call (codeAny_mono (F.run X.A X.stack s H ⟨us, []⟩ (us ++ ds) (vs ++ dvs) Q E hr I.env0 (hb s us I.kIn hl) r2 h) fun r s' hq => ?_)
  cases r with
  | error e => exact hx pins σ H s e s' I hq
  | ok fl =>
    cases fl with
    | ret u => exact I.after hq
    | next => exact False.elim hq
    | brk => exact False.elim hq
    | cont => exact False.elim hq

theorem pe_call (F : FnOk X.prog X.w X.K X.mg X.base CX k f fd ps sp) (hr : Room k X.A) (hg : Gl X x) (hm : X.mg x = some (.ref f)) (hk : PySem.W.keepIn X.K (.ref f) = true) (hb : Binds X.K fd ps ds) (hd : Vals dvs ds) (hx : Passes CX X E)
    (ha : PA X (e :: es) t) (hdb : (x == ("__debug__" : Str)) = false := by decide) (he : starEach (e :: es) X.env = (false, eval e X.env) :: starEach es X.env := by rfl) (hpl : (backTo pos (starEach es X.env)).any (·.1) = false := by rfl) :
    PE X (.Call (.Name x p) (e :: es) [] pos) (tCall sp dvs E t) := by
  intro pins s σ H Q I h
  refine wpAny_Call_Name_kw (ld_glob I hg hm ?_ hdb)
  refine PySem.W.callWith_K (h₀ := X.base) I.ok.mod.kin hk (thn (ha pos pins s σ H _ I h) fun us s1 ⟨vs, H1, I1, r, q⟩ => ⟨I1.kIn, ?_⟩) he hpl
  exact run_fn F hr hb hd hx I1 r q
theorem pe_call0 (F : FnOk X.prog X.w X.K X.mg X.base CX k f fd ps sp) (hr : Room k X.A) (hg : Gl X x) (hm : X.mg x = some (.ref f)) (hk : PySem.W.keepIn X.K (.ref f) = true) (hb : Binds X.K fd ps ds) (hd : Vals dvs ds) (hx : Passes CX X E)
    (hdb : (x == ("__debug__" : Str)) = false := by decide) : PE X (.Call (.Name x p) [] [] pos) (tCall sp dvs E tNil) := by
  intro pins s σ H Q I h
  refine wpAny_Call_Name_kw (ld_glob I hg hm ?_ hdb)
  exact PySem.W.callWith_K0 I.kIn hk (run_fn (us := []) F hr hb hd hx I .nil h)

/-- o.m(e, ..) -/
theorem pe_meth {pl : Sem Bool} (he : PE X o ta) (c : Cls X.K C) (hm : Meth X.K C m f) (F : FnOk X.prog X.w X.K X.mg X.base CX k f fd ps sp) (hr : Room k X.A) (hb : Binds X.K fd ps ds) (hd : Vals dvs ds) (hx : Passes CX X E) (ha : PA X (e :: es) t)
    (hst : starEach (e :: es) X.env = (false, eval e X.env) :: starEach es X.env := by rfl) (hpl : (backTo pos (starEach es X.env)).any (·.1) = false := by rfl)
    (ht : eval (.Call (.Attribute o m apos) (e :: es) [] pos) X.env = (do
      let ov ← eval o X.env
      standAt apos.atName
      let (f, first) ← holding [ov] (getMethod ov m pl)
      callWith pos f first (backTo pos (starEach (e :: es) X.env)) (backToKw pos (keywordEach [] X.env))) := by rfl) :
    PE X (.Call (.Attribute o m apos) (e :: es) [] pos) (tMeth C m sp dvs E ta t) := by
  intro pins s σ H Q I h
  refine PySem.W.methodCall_KW (pl := pl) (thn (he pins s σ H _ I h) fun u s1 ⟨x, H1, I1, rx, a, dx, fs, ex, ea, l, q⟩ => ?_) ht
  subst ex
  obtain rfl : u = Value.ref a := rx
  refine getmeth_ok I1 ea c hm l ?_
  refine PySem.W.callWith_K (first := [.ref a]) (h₀ := X.base) I.ok.mod.kin hm.kp (thn (ha pos pins s1 σ H1 _ I1 q) fun us s2 ⟨vs, H2, I2, r, q2⟩ => ⟨I2.kIn, ?_⟩) hst hpl
  exact run_fn (us := .ref a :: us) (vs := .ref a :: vs) F hr hb hd hx I2 (.cons rfl r) q2
/-- o.m() -/
theorem pe_meth0 {pl : Sem Bool} (he : PE X o ta) (c : Cls X.K C) (hm : Meth X.K C m f) (F : FnOk X.prog X.w X.K X.mg X.base CX k f fd ps sp) (hr : Room k X.A) (hb : Binds X.K fd ps ds) (hd : Vals dvs ds) (hx : Passes CX X E)
    (ht : eval (.Call (.Attribute o m apos) [] [] pos) X.env = (do
      let ov ← eval o X.env
      standAt apos.atName
      let (f, first) ← holding [ov] (getMethod ov m pl)
      callWith pos f first (backTo pos (starEach [] X.env)) (backToKw pos (keywordEach [] X.env))) := by rfl) :
    PE X (.Call (.Attribute o m apos) [] [] pos) (tMeth C m sp dvs E ta tNil) := by
  intro pins s σ H Q I h
  refine PySem.W.methodCall_KW (pl := pl) (thn (he pins s σ H _ I h) fun u s1 ⟨x, H1, I1, rx, a, dx, fs, ex, ea, l, q⟩ => ?_) ht
  subst ex
  obtain rfl : u = Value.ref a := rx
  refine getmeth_ok I1 ea c hm l ?_
  exact PySem.W.callWith_K0 (first := [.ref a]) I1.kIn hm.kp (run_fn (us := [.ref a]) (vs := [.ref a]) F hr hb hd hx I1 (.cons rfl .nil) q)

/-- what a class must have to be made -/
structure Mk (K : PySem.W.Frag) (C f : Addr) : Prop where
  makes : PySem.W.makesIn K C = true
  init : PySem.W.findIn K (.ref C) "__init__" = some (some (.ref f))
  fn : PySem.W.isFn K (.ref f) = true
  kp : PySem.W.keepIn K (.ref C) = true

theorem run_make {pins : List (Addr × Obj)} {σ : St} {H : Hp} {s : Shared} {Q : VK} {us : List Value} {vs : List V} (M : Mk X.K C f) (F : FnOk X.prog X.w X.K X.mg X.base CX k f fd ps sp) (hr : Room (k + 1) X.A) (hb : Binds X.K fd ps ds) (hd : Vals dvs ds)
    (hx : Passes CX X E) (I : Inv X pins σ H s) (r : Vals vs us)
    (h : ∀ x dx, H x = none → H dx = none → dx ≠ x → sp (.ref x :: (vs ++ dvs)) (upd (upd H dx (.own x)) x (.ins C dx [])) (fun v H2 => v = .non ∧ Q (.ref x) H2) E) :
    wpAny (model X.prog X.w) X.A (call (.ref C) us) (EP X pins σ Q) X.xe s := by
  have hq := h (s.heap.objs.size + 1) s.heap.objs.size (I.hok.fresh (Nat.le_succ _)) (I.hok.fresh (Nat.le_refl _)) (Nat.ne_of_lt (Nat.lt_succ_self _))
  have I2 := Inv.made (C := C) I
  have r2 : Vals (V.ref (s.heap.objs.size + 1) :: (vs ++ dvs)) (Value.ref (s.heap.objs.size + 1) :: (us ++ ds)) := .cons rfl (r.append hd)
  have hl : (Value.ref (s.heap.objs.size + 1) :: us ++ ds).length = ps.length := by
    have e := r2.length
    rw [F.len _ _ _ _ hq] at e
    exact e.symm
  refine wpAny_call (make_map (f := f) I.kIn M.makes M.init (beq_iff_eq.mp M.fn) (codeAny_mono (F.run _ X.stack _ _ ⟨Value.ref (s.heap.objs.size + 1) :: us, []⟩ (Value.ref (s.heap.objs.size + 1) :: (us ++ ds)) _ _ E (hr.make C us [])
    (I2.env0.make C us []) (hb _ (Value.ref (s.heap.objs.size + 1) :: us) I2.kIn hl) r2 hq) fun r s' hq' => ?_))
  cases r with
  | error e => exact hx pins σ _ _ e s' I2 hq'
  | ok fl =>
    cases fl with
    | ret u =>
      obtain ⟨v, H', I3, rv, ev, q3⟩ := I2.after hq'
      subst ev
      exact ⟨rv, ⟨V.ref (s.heap.objs.size + 1), H', I3, rfl, q3⟩⟩
    | next => exact False.elim hq'
    | brk => exact False.elim hq'
    | cont => exact False.elim hq'
theorem pe_make (M : Mk X.K C f) (F : FnOk X.prog X.w X.K X.mg X.base CX k f fd ps sp) (hr : Room (k + 1) X.A) (hg : Gl X x) (hm : X.mg x = some (.ref C)) (hb : Binds X.K fd ps ds) (hd : Vals dvs ds) (hx : Passes CX X E)
    (ha : PA X (e :: es) t) (hdb : (x == ("__debug__" : Str)) = false := by decide) (he : starEach (e :: es) X.env = (false, eval e X.env) :: starEach es X.env := by rfl) (hpl : (backTo pos (starEach es X.env)).any (·.1) = false := by rfl) :
    PE X (.Call (.Name x p) (e :: es) [] pos) (tMake C sp dvs E t) := by
  intro pins s σ H Q I h
  refine wpAny_Call_Name_kw (ld_glob I hg hm ?_ hdb)
  refine PySem.W.callWith_K (h₀ := X.base) I.ok.mod.kin M.kp (thn (ha pos pins s σ H _ I h) fun us s1 ⟨vs, H1, I1, r, q⟩ => ⟨I1.kIn, ?_⟩) he hpl
  exact run_make M F hr hb hd hx I1 r q
theorem pe_make0 (M : Mk X.K C f) (F : FnOk X.prog X.w X.K X.mg X.base CX k f fd ps sp) (hr : Room (k + 1) X.A) (hg : Gl X x) (hm : X.mg x = some (.ref C)) (hb : Binds X.K fd ps ds) (hd : Vals dvs ds) (hx : Passes CX X E)
    (hdb : (x == ("__debug__" : Str)) = false := by decide) : PE X (.Call (.Name x p) [] [] pos) (tMake C sp dvs E tNil) := by
  intro pins s σ H Q I h
  refine wpAny_Call_Name_kw (ld_glob I hg hm ?_ hdb)
  exact PySem.W.callWith_K0 I.kIn M.kp (run_make (us := []) M F hr hb hd hx I .nil h)
end

/-! ### keywords -/
/-- the values of the keywords, from the left -/
def PK (X : Cx) (kws : List Keyword) (t : TA) : Prop :=
  ∀ (pos : Pos) (pins : List (Addr × Obj)) (s : Shared) (σ : St) (H : Hp) (Q : List V → Hp → Prop), Inv X pins σ H s → t σ H Q → wpAny (model X.prog X.w) X.A (evalAll ((backToKw pos (keywordEach kws X.env)).map (·.2))) (AP X pins σ Q) X.xe s
section
variable {X : Cx} {CX : CXT} {k : Nat} {f C : Addr} {fd : FuncData} {ps ks : List Str} {sp : Sp} {E : XK} {x m : Str} {p pos apos kpos : Pos} {e o : Expr} {es : List Expr} {kws : List Keyword} {te ta : TE} {t tk : TA} {nm : Option Str}
theorem pk_nil : PK X [] tNil := fun _ _ _ _ H Q I h => wpAny_evalAll_nil ⟨[], H, I, .nil, h⟩
theorem pk_cons (ha : PE X e te) (hr : PK X kws t) : PK X (⟨nm, e, kpos⟩ :: kws) (tCons te t) := by
  intro pos pins s σ H Q I h
  show wpAny _ _ (evalAll ((do let v ← eval e X.env; standAt pos; pure v) :: (backToKw pos (keywordEach kws X.env)).map (·.2))) _ _ s
  refine wpAny_evalAll_cons (wpAny_bind (thn (ha pins s σ H _ I h) fun u s1 ⟨x, H1, I1, r1, q1⟩ => wpAny_bind (wpAny_standAt (wpAny_pure ?_))))
  exact thn (hr pos pins s1 σ H1 _ I1 q1) fun us s2 ⟨xs, H2, I2, r2, q2⟩ => ⟨x :: xs, H2, I2, .cons r1 r2, q2⟩

/-- how a call with keywords binds: g puts the positional values us and the keywords' values ws (names ks) in the parameters' order, defaults among them -/
structure KBinds (K : PySem.W.Frag) (fd : FuncData) (ps ks : List Str) (g : List Value → List Value → List Value) (gV : List V → List V → List V) : Prop where
  to : ∀ (s : Shared) (us ws : List Value), K.In s.heap → (g us ws).length = ps.length → BindsTo s fd ⟨us, ks.zip ws⟩ (ps.zip (g us ws))
  rel : ∀ {vs : List V} {us : List Value} {zs : List V} {ws : List Value}, Vals vs us → Vals zs ws → Vals (gV vs zs) (g us ws)
def tCallK (sp : Sp) (gV : List V → List V → List V) (E : XK) (t tk : TA) : TE := fun σ H Q => t σ H fun vs H1 => tk σ H1 fun zs H2 => sp (gV vs zs) H2 Q E
variable {g : List Value → List Value → List Value} {gV : List V → List V → List V}
theorem run_fnk {pins : List (Addr × Obj)} {σ : St} {H : Hp} {s : Shared} {Q : VK} {us ws : List Value} {vs zs : List V} (F : FnOk X.prog X.w X.K X.mg X.base CX k f fd ps sp) (hr : Room k X.A) (hb : KBinds X.K fd ps ks g gV) (hx : Passes CX X E)
    (I : Inv X pins σ H s) (r : Vals vs us) (rz : Vals zs ws) (h : sp (gV vs zs) H Q E) : wpAny (model X.prog X.w) X.A (call (.ref f) us (ks.zip ws)) (EP X pins σ Q) X.xe s := by
  have r2 := hb.rel r rz
  have hl : (g us ws).length = ps.length := by rw [← r2.length]; exact F.len _ _ _ _ h
  refine wpAny_call (codeAny_mono (F.run X.A X.stack s H ⟨us, ks.zip ws⟩ (g us ws) (gV vs zs) Q E hr I.env0 (hb.to s us ws I.kIn hl) r2 h) fun r s' hq => ?_)
  cases r with
  | error e => exact hx pins σ H s e s' I hq
  | ok fl =>
    cases fl with
    | ret u => exact I.after hq
    | next => exact False.elim hq
    | brk => exact False.elim hq
    | cont => exact False.elim hq
/-- f(e, .., k = v, ..) -/
theorem pe_callK (F : FnOk X.prog X.w X.K X.mg X.base CX k f fd ps sp) (hr : Room k X.A) (hg : Gl X x) (hm : X.mg x = some (.ref f)) (hk : PySem.W.keepIn X.K (.ref f) = true) (hb : KBinds X.K fd ps ks g gV) (hx : Passes CX X E)
    (ha : PA X (e :: es) t) (hkw : PK X kws tk) (hall : (backToKw pos (keywordEach kws X.env)).all (·.1.isSome) = true := by rfl) (hks : (backToKw pos (keywordEach kws X.env)).filterMap (·.1) = ks := by rfl)
    (hdb : (x == ("__debug__" : Str)) = false := by decide) (he : starEach (e :: es) X.env = (false, eval e X.env) :: starEach es X.env := by rfl)
    (hpl : ((backTo pos (starEach (e :: es) X.env)).any (·.1) || (backToKw pos (keywordEach kws X.env)).any (·.1.isNone)) = false := by rfl) :
    PE X (.Call (.Name x p) (e :: es) kws pos) (tCallK sp gV E t tk) := by
  intro pins s σ H Q I h
  refine wpAny_Call_Name_kw (ld_glob I hg hm ?_ hdb)
  refine PySem.W.callWith_KW (h₀ := X.base) I.ok.mod.kin hk hall (thn (ha pos pins s σ H _ I h) fun us s1 ⟨vs, H1, I1, r, q⟩ => ?_) hpl he
  refine thn (hkw pos pins s1 σ H1 _ I1 q) fun ws s2 ⟨zs, H2, I2, rz, q2⟩ => ⟨I2.kIn, ?_⟩
  rw [hks]
  exact run_fnk F hr hb hx I2 r rz q2
end

/-! ### a def's body keeps its promise -/
/-- names: the parameters first -/
structure FnScope (N P : List Str) (sc : Scope) : Prop where
  kind : sc.kind = .function
  co : sc.isCoroutine = false
  gen : sc.isGenerator = false
  nd : N.Nodup
  pre : N.take P.length = P
  par : ∀ x ∈ P, sc.names.lookup x = some .local ∨ sc.names.lookup x = some .cell
  nofree : ∀ y ∈ sc.names, y.2 ≠ .free

theorem bindL_out {kindOf : Str → Option NameKind} {x : Str} : ∀ {binds : List (Str × Value)} {m : Str → Option Value}, (∀ v, (x, v) ∉ binds) → bindL kindOf binds m x = m x
  | [], _, _ => rfl
  | (n, v) :: r, m, h => by
    unfold bindL
    rw [bindL_out fun w hw => h w (List.mem_cons_of_mem _ hw)]
    split
    · have : x ≠ n := by rintro rfl; exact h v List.mem_cons_self
      simp [this]
    · rfl
theorem bindC_out {kindOf : Str → Option NameKind} {x : Str} : ∀ {binds : List (Str × Value)} {m : Str → Option Value}, (∀ v, (x, v) ∉ binds) → bindC kindOf binds m x = m x
  | [], _, _ => rfl
  | (n, v) :: r, m, h => by
    unfold bindC
    rw [bindC_out fun w hw => h w (List.mem_cons_of_mem _ hw)]
    split
    · rfl
    · have : x ≠ n := by rintro rfl; exact h v List.mem_cons_self
      simp [this]
theorem bindL_get {kindOf : Str → Option NameKind} {x : Str} {v : Value} : ∀ {P : List Str} {vs : List Value} {i : Nat} {m : Str → Option Value}, P.Nodup → P[i]? = some x → vs[i]? = some v → kindOf x = some .local →
    bindL kindOf (P.zip vs) m x = some v
  | [], _, _, _, _, h, _, _ => by simp at h
  | _ :: _, [], _, _, _, _, h, _ => by simp at h
  | p :: P, w :: vs, 0, m, nd, h1, h2, hk => by
    simp at h1 h2; subst h1; subst h2
    show bindL kindOf ((p, w) :: P.zip vs) m p = _
    unfold bindL
    rw [bindL_out fun v hv => (List.nodup_cons.mp nd).1 (List.of_mem_zip hv).1, if_pos hk]
    simp
  | p :: P, w :: vs, i + 1, m, nd, h1, h2, hk => by
    show bindL kindOf ((p, w) :: P.zip vs) m x = _
    unfold bindL
    exact bindL_get (i := i) (List.nodup_cons.mp nd).2 (by simpa using h1) (by simpa using h2) hk
theorem bindC_get {kindOf : Str → Option NameKind} {x : Str} {v : Value} : ∀ {P : List Str} {vs : List Value} {i : Nat} {m : Str → Option Value}, P.Nodup → P[i]? = some x → vs[i]? = some v → kindOf x ≠ some .local →
    bindC kindOf (P.zip vs) m x = some v
  | [], _, _, _, _, h, _, _ => by simp at h
  | _ :: _, [], _, _, _, _, h, _ => by simp at h
  | p :: P, w :: vs, 0, m, nd, h1, h2, hk => by
    simp at h1 h2; subst h1; subst h2
    show bindC kindOf ((p, w) :: P.zip vs) m p = _
    unfold bindC
    rw [bindC_out fun v hv => (List.nodup_cons.mp nd).1 (List.of_mem_zip hv).1, if_neg hk]
    simp
  | p :: P, w :: vs, i + 1, m, nd, h1, h2, hk => by
    show bindC kindOf ((p, w) :: P.zip vs) m x = _
    unfold bindC
    exact bindC_get (i := i) (List.nodup_cons.mp nd).2 (by simpa using h1) (by simpa using h2) hk

/-- the names' values at the entry -/
def start (N : List Str) (vs : List V) : St := vs.map some ++ List.replicate (N.length - vs.length) none

/-- the context of a def's body, at its entry; an exception leaves the frame, then lies as CX says -/
def cxOf (CX : CXT) (P : Program) (w : World) (K : PySem.W.Frag) (mg : Str → Option Value) (base : Heap) (N : List Str) (qual : Str) (scope : Scope) (f : Addr) (cd : Value) (A : Around) (outer : List Env) (s : Shared) (H : Hp) (E : XK) : Cx where
  prog := P
  w := w
  K := K
  mg := mg
  base := base
  A := A.deeper (envOfC qual scope s.heap.objs.size f cd)
  N := N
  s₀ := s
  H₀ := H
  env := envOfC qual scope s.heap.objs.size f cd
  outer := outer
  stack := envOfC qual scope s.heap.objs.size f cd :: outer
  ex := []
  calm := true
  fn := fun _ => true
  pn := []
  xe := fun e s' => wpAny (model P w) (A.deeper (envOfC qual scope s.heap.objs.size f cd)) (leaving (envOfC qual scope s.heap.objs.size f cd) e) (fun _ s'' => CX outer H s E e s'') (fun e' s'' => CX outer H s E e' s'') s'

theorem cell_has {sc : Scope} {n : Nat} {x : Str} (h : sc.names.lookup x = some .cell) : ∃ c, (cellsFrom n sc.names []).lookup x = some c := by
  have q := PySem.W.cellsFrom_some sc.names n [] (.inl h)
  exact Option.isSome_iff_exists.mp q

theorem inv_start {CX : CXT} {P : Program} {w : World} {K : PySem.W.Frag} {mg : Str → Option Value} {base : Heap} {N ps : List Str} {qual : Str} {scope : Scope} {f : Addr} {cd : Value} {A : Around} {outer : List Env} {s s1 : Shared} {H : Hp} {E : XK} {us : List Value} {vs : List V}
    (S : FnScope N ps scope) (hd : A.handled = none) (e0 : Env0 P w K mg base A outer s H) (hl : vs.length = ps.length) (r : Vals vs us)
    (x : InCallC s s.heap.objs.size (bindL (envOfC qual scope s.heap.objs.size f cd).kindOf (ps.zip us) fun _ => none) (cellsFrom (s.heap.objs.size + 1) scope.names []) (bindC (envOfC qual scope s.heap.objs.size f cd).kindOf (ps.zip us) fun _ => none) s1) :
    Inv (cxOf CX P w K mg base N qual scope f cd A outer s H E) [] (start N vs) H s1 := by
  have hpl : ps.length ≤ N.length := by have := congrArg List.length S.pre; rw [List.length_take] at this; omega
  obtain ⟨h1, tk, rfl, hk⟩ := x.done
  have noA : ∀ b : Addr, b ∉ (cxOf CX P w K mg base N qual scope f cd A outer s H E).ex := fun b z => absurd (show b ∈ ([] : List Addr) from z) (by simp)
  refine ⟨⟨e0.mod, S.kind, rfl, rfl, Nat.le_refl _, fun y z c h1 h2 => ?_, fun y hy => ?_, fun y c _ h => ?_, fun _ => hd, Around.frames_deeper e0.frames, .inr ⟨rfl, rfl⟩, fun b z => absurd z (noA b), e0.bs, e0.bsz, fun b _ _ => noA b, fun b z => absurd z (noA b), e0.funs, e0.frf⟩,
    rfl, e0.bare, Un.kept hk, ⟨_, x.toInCall.ns, fun i y v h1 h2 h3 => ?_⟩, fun y c h => ⟨_, x.cell y c h⟩, e0.hok.fresh (Nat.le_refl _), fun y c h => ?_, fun p hp => absurd (show p ∈ ([] : List (Addr × Obj)) from hp) (by simp), e0.hok.kept hk, ?_⟩
  · exact name_of_addr x.apart (PySem.mem_of_lookup h1) (PySem.mem_of_lookup h2)
  · have hy : scope.names.lookup y = some .cell ∨ scope.names.lookup y = some .free := hy
    rcases hy with hy | hy
    · exact cell_has hy
    · exact absurd rfl (S.nofree _ (PySem.mem_of_lookup hy))
  · exact Nat.le_of_lt (x.above y c (PySem.mem_of_lookup h))
  · have hi : i < vs.length := by
      unfold start at h2
      by_cases hi : i < vs.length
      · exact hi
      · rw [List.getElem?_append_right (by simpa using hi)] at h2
        rw [List.getElem?_replicate] at h2
        split at h2 <;> cases h2
    have ha : vs[i]? = some v := by
      unfold start at h2
      rw [List.getElem?_append_left (by simpa using hi), List.getElem?_map] at h2
      cases e : vs[i]? with
      | none => rw [e] at h2; cases h2
      | some a => rw [e] at h2; cases h2; rfl
    obtain ⟨u, hu, rv⟩ := r.get ha
    have hp : ps[i]? = some y := by
      rw [← S.pre, List.getElem?_take_of_lt (by omega)]; exact h1
    have ndP : ps.Nodup := by rw [← S.pre]; exact S.nd.sublist (List.take_sublist _ _)
    refine ⟨u, rv, ?_⟩
    rcases S.par y (List.mem_of_getElem? hp) with k | k
    · exact .inl ⟨k, bindL_get ndP hp hu k⟩
    · obtain ⟨c, e⟩ := cell_has (n := s.heap.objs.size + 1) k
      refine .inr ⟨.inl k, c, e, ?_⟩
      have q := x.cell y c e
      rw [bindC_get ndP hp hu (by show scope.names.lookup y ≠ _; rw [k]; decide)] at q
      exact q
  · exact e0.hok.fresh (Nat.le_of_lt (x.above y c (PySem.mem_of_lookup h)))
  · unfold start
    show _ = N.length
    rw [List.length_append, List.length_map, List.length_replicate]
    omega

/-- THE RULE: a def (or a method) of the text, by its body. The body's reading t is chosen for each entry; it is run at the parameters' values -/
theorem fn_of {CX : CXT} {P : Program} {w : World} {K : PySem.W.Frag} {mg : Str → Option Value} {base : Heap} {k : Nat} {f : Addr} {name qual : Str} {params : Arguments} {body : List Stmt} {scope : Scope} {dV kV doc pm cdv ct oc : Value} {an od : Option Addr}
    {osl : Array (Option Value)} {N ps : List Str} {sp : Sp} (lk : K.lookup f = some ⟨oc, od, .func (PySem.W.fnOf name qual params body scope dV kV doc pm an cdv ct), osl⟩) (hcd : PySem.W.codeIn K cdv qual = true) (S : FnScope N ps scope)
    (len : ∀ vs H Q E, sp vs H Q E → vs.length = ps.length)
    (hbody : ∀ (A : Around) (outer : List Env) (s : Shared) (H : Hp) (vs : List V) (Q : VK) (E : XK), Room k (A.deeper (envOfC qual scope s.heap.objs.size f cdv)) → sp vs H Q E →
      ∃ t, PSs (cxOf CX P w K mg base N qual scope f cdv A outer s H E) body t ∧ t { nx := fun _ H' => Q .non H', rt := Q } (start N vs) H) :
    FnOk P w K mg base CX (k + 1) f (PySem.W.fnOf name qual params body scope dV kV doc pm an cdv ct) ps sp := by
  refine ⟨len, fun A outer s H args us vs Q E hr e0 hb r hsp => ?_⟩
  have hl := len _ _ _ _ hsp
  have KX : K.In s.heap := e0.mod.kin.keeps fun b o e => (e0.bs b o e).1
  have lim : s.heap.NoLimit := e0.mod.nolimit.keeps fun b o e => (e0.bs b o e).1
  have hkind : ∀ y ∈ ps.zip us, scope.names.lookup y.1 = some .local ∨ (scope.names.lookup y.1 = some .cell ∧ ((cellsFrom (s.heap.objs.size + 1) scope.names []).lookup y.1).isSome = true) := fun ⟨n, v⟩ hy => by
    rcases S.par n (List.of_mem_zip hy).1 with q | q
    · exact .inl q
    · exact .inr ⟨q, PySem.W.cellsFrom_some _ _ _ (.inl q)⟩
  refine codeAny_call_function hr.depth (KX _ _ lk) rfl S.co S.gen rfl (PySem.W.codeRec_of KX hcd) (hb _ _ _ _ ?_)
  refine wpAny_newFunctionEnv_cells S.kind hkind fun env he s1 x => ?_
  subst he
  refine ⟨lim.keeps x.toInCall.keep, codeAny_func ?_⟩
  obtain ⟨t, ht, hq⟩ := hbody A outer s H vs Q E (hr.deeper _) hsp
  have I : Inv (cxOf CX P w K mg base N qual scope f cdv A outer s H E) [] (start N vs) H s1 := inv_start S hr.hd e0 hl r x
  refine wpAny_mono (ht [] s1 (start N vs) H _ I hq) (fun fl s' hs => ?_) fun e s' hs => hs
  have fin : ∀ {σ' : St} {H' : Hp} {v : V} {u : Value}, Inv (cxOf CX P w K mg base N qual scope f cdv A outer s H E) [] σ' H' s' → RelV v u → Q v H' → CE outer P w H s Q u s' :=
    fun {σ' H' v u} J rv q => ⟨v, H', J.os, J.bare, J.base, J.hok, rv, q⟩
  cases fl with
  | ret u =>
    obtain ⟨v, σ', H', J, rv, q⟩ := hs
    exact fin J rv q
  | next =>
    obtain ⟨σ', H', J, q⟩ := hs
    exact fin (v := V.non) (u := Value.none) J rfl q
  | brk =>
    obtain ⟨_, _, _, q⟩ := hs
    exact False.elim q
  | cont =>
    obtain ⟨_, _, _, q⟩ := hs
    exact False.elim q
end L2

namespace L2
open PySem PySem.Spec PyProof.Rows
section
variable {X : Cx} {x : Str} {p pos : Pos} {e : Expr} {es : List Expr} {t : TA} {id T : String} {r : List V → Hp → VK → Prop}

def tCB (r : List V → Hp → VK → Prop) (t : TA) : TE := fun σ H Q => t σ H fun vs H1 => r vs H1 Q
/-- f(e, ..), f a built-in function -/
theorem pe_callB (hc : CallR X (.builtin id) r) (hg : Gl X x) (hm : X.mg x = none) (hv : bootBuiltins x = some (.builtin id)) (ha : PA X (e :: es) t) (hn : x ≠ "__name__" := by decide) (hdb : (x == ("__debug__" : Str)) = false := by decide)
    (he : starEach (e :: es) X.env = (false, eval e X.env) :: starEach es X.env := by rfl) (hpl : (backTo pos (starEach es X.env)).any (·.1) = false := by rfl) : PE X (.Call (.Name x p) (e :: es) [] pos) (tCB r t) := by
  intro pins s σ H Q I h
  refine wpAny_Call_Name_kw (ld_blt I hg hm hv ?_ hn hdb)
  exact PyProof.Rows.callWith_builtin1 (thn (ha pos pins s σ H _ I h) fun us s1 ⟨vs, H1, I1, r1, q1⟩ => hc pins s1 σ H1 vs us Q I1 r1 q1) he hpl
/-- T(e, ..), T a built-in type -/
theorem pe_callTy (hc : CallR X (.type T) r) (hg : Gl X x) (hm : X.mg x = none) (hv : bootBuiltins x = some (.type T)) (ha : PA X (e :: es) t) (hn : x ≠ "__name__" := by decide) (hdb : (x == ("__debug__" : Str)) = false := by decide)
    (he : starEach (e :: es) X.env = (false, eval e X.env) :: starEach es X.env := by rfl) (hpl : (backTo pos (starEach es X.env)).any (·.1) = false := by rfl) : PE X (.Call (.Name x p) (e :: es) [] pos) (tCB r t) := by
  intro pins s σ H Q I h
  refine wpAny_Call_Name_kw (ld_blt I hg hm hv ?_ hn hdb)
  exact PyProof.Rows.callWith_type1 (thn (ha pos pins s σ H _ I h) fun us s1 ⟨vs, H1, I1, r1, q1⟩ => hc pins s1 σ H1 vs us Q I1 r1 q1) he hpl
/-- T() -/
theorem pe_callTy0 (hc : CallR X (.type T) r) (hg : Gl X x) (hm : X.mg x = none) (hv : bootBuiltins x = some (.type T)) (hn : x ≠ "__name__" := by decide) (hdb : (x == ("__debug__" : Str)) = false := by decide) :
    PE X (.Call (.Name x p) [] [] pos) (tCB r tNil) := by
  intro pins s σ H Q I h
  refine wpAny_Call_Name_kw (ld_blt I hg hm hv ?_ hn hdb)
  exact PyProof.Rows.callWith_type0 (hc pins s σ H [] [] Q I .nil h)
end
end L2

namespace HT
open PySem PyProof.Rows

/-- t < u of tuples of ints -/
def lexLt : List Int → List Int → Bool
  | [], [] => false
  | [], _ :: _ => true
  | _ :: _, [] => false
  | x :: xs, y :: ys => if x = y then lexLt xs ys else decide (x < y)
theorem lexLt_cons (x y : Int) (xs ys : List Int) : lexLt (x :: xs) (y :: ys) = if x = y then lexLt xs ys else decide (x < y) := rfl
theorem lexLt_nil_nil : lexLt [] [] = false := rfl
theorem lexLt_nil_cons (y : Int) (ys : List Int) : lexLt [] (y :: ys) = true := rfl
theorem lexLt_cons_nil (x : Int) (xs : List Int) : lexLt (x :: xs) [] = false := rfl

theorem eqAt_int (A : Around) (s : Shared) (a : Int) (t : Tok) (c : Int) (u : Tok) : ∃ e, SeqAt.EqAt A s (.int a t) (.int c u) e ∧ (e = true ↔ a = c) :=
  ⟨(a == c), SeqAt.EqAt.int_int a t c u, by simp⟩
theorem rcLt_int (A : Around) (s : Shared) (a : Int) (t : Tok) (c : Int) (u : Tok) (prog : Program) (w : World) (E : Value → Shared → Prop) (Q : Value → Shared → Prop) (h : Q (.bool (decide (a < c))) s) :
    wpAny (model prog w) A (richCompare .Lt (.int a t) (.int c u)) Q E s :=
  (PyProof.Rows.lt_int h : wpAny (model prog w) A (compareOp .Lt (.int a t) (.int c u)) Q E s)

section
open PySem.SeqAt
open PySem.AutoSeq1 (wpAny_loadPart')
open PySem.MeetsSeq PySem.MeetsSeq2 PySem.MeetsSeq3

theorem tuple_lt_ints (l b : Addr) (items items2 : Array Value) (n n2 : Nat) (dd dd2 : Option Addr) (sl sl2 : Array (Option Value)) (ns ms : List Int) (hi : IntsAre items.toList ns) (hj : IntsAre items2.toList ms) :
    Meets (Builtin.«tuple.__lt__» ⟨[.ref l, .ref b], []⟩)
      (fun _ R s => s.heap.get? l = some { cls := .type "tuple", dict := dd, data := .seq items n, slots := sl } ∧ s.heap.get? b = some { cls := .type "tuple", dict := dd2, data := .seq items2 n2, slots := sl2 } ∧
        R (.ok (.ret (.bool (lexLt ns ms)))) s) :=
  .of_wp fun prog w A R s h => by
    obtain ⟨hp, g, d, tk, os⟩ := s; obtain ⟨hl, hb, h⟩ := h
    have f2 := AutoSeq1.sub_tuple_tuple
    have z1 : items.size = ns.length := by rw [← hi.length]; simp
    have z2 : items2.size = ms.length := by rw [← hj.length]; simp
    wp_walk using wpAny_loadPart' hl, wpAny_loadPart' hb, wpAny_forIn_list _ (fun rest b s' => b.1 = none ∧ s' = ⟨hp, g, d, tk, os⟩ ∧ ∃ (vs ws : List Value) (ns' ms' : List Int), rest = vs.zip ws ∧
      IntsAre vs ns' ∧ IntsAre ws ms' ∧ ns'.length + items2.size = ms'.length + items.size ∧ R (.ok (.ret (.bool (lexLt ns' ms')))) ⟨hp, g, d, tk, os⟩) _
    case turn =>
      rintro ⟨y, x⟩ rest b s' ⟨hb', rfl, vs, ws, ns', ms', hz, hvi, hwi, hlen, hR⟩
      cases hvi with
      | nil => rw [List.zip_nil_left] at hz; cases hz
      | cons a t hvi' =>
        cases hwi with
        | nil => rw [List.zip_nil_right] at hz; cases hz
        | cons c u hwi' =>
          rw [List.zip_cons_cons] at hz
          injection hz with hyx hrest
          injection hyx with hy hx
          subst hy hx
          rw [lexLt_cons] at hR
          simp only [List.length_cons] at hlen
          obtain ⟨e, he, hiff⟩ := eqAt_int A.in1 ⟨hp, g, d, tk, os⟩ a t c u
          refine wpAny_bind (he prog w _ _ ?_)
          cases e with
          | true =>
            rw [if_pos (hiff.mp rfl)] at hR
            wp_walk
            exact ⟨rfl, rfl, _, _, _, _, hrest, hvi', hwi', by omega, hR⟩
          | false =>
            rw [if_neg (fun q => absurd (hiff.mpr q) Bool.false_ne_true)] at hR
            have hri := rcLt_int A.in1 ⟨hp, g, d, tk, os⟩ a t c u prog w
            wp_walk using hri
            exact ⟨_, rfl, by simpa using hR⟩
    case fin =>
      rintro ⟨b1, b2⟩ s' ⟨hb', rfl, vs, ws, ns', ms', hz, hvi, hwi, hlen, hR⟩
      simp only at hb'
      subst hb'
      have hv : lexLt ns' ms' = decide (items.size < items2.size) := by
        cases hvi with
        | nil =>
          cases hwi with
          | nil =>
            simp only [List.length_nil] at hlen
            rw [lexLt_nil_nil]
            exact (decide_eq_false (by omega)).symm
          | cons c u hw =>
            simp only [List.length_nil, List.length_cons] at hlen
            rw [lexLt_nil_cons]
            exact (decide_eq_true (by omega)).symm
        | cons a t hv =>
          cases hwi with
          | nil =>
            simp only [List.length_nil, List.length_cons] at hlen
            rw [lexLt_cons_nil]
            exact (decide_eq_false (by omega)).symm
          | cons c u hw =>
            rw [List.zip_cons_cons] at hz
            cases hz
      rw [hv] at hR
      wp_walk
      exact ⟨_, rfl, by simpa [Builtin.Tuple.tupleCompareSizes] using hR⟩
    case h =>
      exact ⟨rfl, rfl, items.toList, items2.toList, ns, ms, rfl, hi, hj, by omega, h⟩
end

section
variable {prog : Program} {w : World} {A : Around} {E : Value → Shared → Prop} {s : Shared}

theorem lt_tupInts {l b : Addr} {items items2 : Array Value} {ns ms : List Int} {Q : Value → Shared → Prop} (hl : IsTup s.heap l items) (hb : IsTup s.heap b items2) (hi : IntsAre items.toList ns) (hj : IntsAre items2.toList ms)
    (hu : A.units < cLine) (h : Q (.bool (lexLt ns ms)) s) : wpAny (model prog w) A (compareOp .Lt (.ref l) (.ref b)) Q E s := by
  obtain ⟨⟨cls, dd, data, sl⟩, ho, hc, n, hd⟩ := id hl
  obtain ⟨⟨cls2, dd2, data2, sl2⟩, ho2, hc2, n2, hd2⟩ := id hb
  simp only at hc hd hc2 hd2
  subst hc hd hc2 hd2
  exact richCompare_meets_room (op := .Lt) ⟨_, ho, rfl⟩ ⟨_, ho2, rfl⟩ PySem.F.slot_tuple_lt PySem.F.entry_tuple_lt (PySem.F.args_tuple_lt_2 _ _) (tuple_lt_ints l b items items2 n n2 dd dd2 sl sl2 ns ms hi hj)
    ⟨ho, ho2, show Value.bool (lexLt ns ms) ≠ Value.notImplemented ∧ Q (.bool (lexLt ns ms)) s from ⟨(fun x => nomatch x), h⟩⟩ hu

/-- t + u, t not empty -/
theorem cat_tup {t b : Addr} {vs ws : List Value} {Q : Value → Shared → Prop} (ht : IsTup s.heap t vs.toArray) (hb : IsTup s.heap b ws.toArray) (hv : vs ≠ [])
    (h1 : ws = [] → Q (.ref t) s) (h2 : ws ≠ [] → Q (.ref s.heap.objs.size) { s with heap := s.heap.push { cls := .type "tuple", data := .seq (vs ++ ws).toArray } })
    (hsz : vs.length + ws.length ≤ sizeLine) : wpAny (model prog w) A (binaryOp .Add (.ref t) (.ref b)) Q E s := by
  obtain ⟨⟨cls, dd, data, sl⟩, ho, hc, n, hd⟩ := id ht
  obtain ⟨⟨cls2, dd2, data2, sl2⟩, ho2, hc2, n2, hd2⟩ := id hb
  simp only at hc hd hc2 hd2
  subst hc hd hc2 hd2
  have e : vs.toArray ++ ws.toArray = (vs ++ ws).toArray := by simp
  by_cases hw : ws = []
  · exact concat_meets ⟨_, ho, rfl⟩ ⟨_, ho2, rfl⟩ noFill_tuple_add seq_tuple_add PySem.F.slot_tuple_add PySem.F.entry_tuple_add (PySem.F.args_tuple_add_2 _ _)
      (tuple_addW1 t b vs.toArray ws.toArray n n2 dd dd2 sl sl2 (by simpa using hv) (by simp [hw])) ⟨ho, ho2, h1 hw⟩
  · refine concat_meets ⟨_, ho, rfl⟩ ⟨_, ho2, rfl⟩ noFill_tuple_add seq_tuple_add PySem.F.slot_tuple_add PySem.F.entry_tuple_add (PySem.F.args_tuple_add_2 _ _)
      (tuple_addW2 t b vs.toArray ws.toArray n n2 dd dd2 sl sl2 (by simpa using hv) (by simpa using hw) (by rw [List.size_toArray, List.size_toArray]; exact hsz)) ⟨ho, ho2, ?_⟩
    rw [e]
    exact h2 hw

/-! ### t[a:b], not the whole -/
/-- a slice's bound as a place among n (d where it is left out) -/
def sIx (n d : Nat) : Option Int → Nat
  | none => d
  | some v => if v < 0 then (v + (n : Int)).toNat else min v.toNat n
theorem sIx_none (n d : Nat) : sIx n d none = d := rfl
theorem sIx_nat (n d k : Nat) : sIx n d (some (k : Int)) = min k n := by
  show (if (k : Int) < 0 then ((k : Int) + (n : Int)).toNat else min (k : Int).toNat n) = min k n
  rw [if_neg (by omega), Int.toNat_natCast]
theorem sIx_le (n d : Nat) (hd : d ≤ n) (o : Option Int) : sIx n d o ≤ n := by
  cases o with
  | none => exact hd
  | some v =>
    show (if v < 0 then (v + (n : Int)).toNat else min v.toNat n) ≤ n
    by_cases hv : v < 0
    · rw [if_pos hv]; omega
    · rw [if_neg hv]; exact Nat.min_le_right _ _
theorem clip_eq (v : Int) (n d : Nat) : (if v < 0 then max (v + (n : Int)) 0 else min v (n : Int)) = ((sIx n d (some v) : Nat) : Int) := by
  show (if v < 0 then max (v + (n : Int)) 0 else min v (n : Int)) = (((if v < 0 then (v + (n : Int)).toNat else min v.toNat n) : Nat) : Int)
  by_cases hv : v < 0
  · simp only [if_pos hv]; omega
  · simp only [if_neg hv]; omega
theorem adjust_gen (lo hi : Option Int) (n : Nat) : Builtin.Slice.sliceAdjust lo hi 1 (n : Int) = (((sIx n 0 lo : Nat) : Int), ((sIx n n hi : Nat) : Int)) := by
  have h1 : ¬ ((1 : Int) < 0) := by omega
  unfold Builtin.Slice.sliceAdjust
  simp only [h1, if_false]
  refine Prod.ext ?_ ?_
  · cases lo with
    | none => rfl
    | some v => exact clip_eq v n 0
  · cases hi with
    | none => rfl
    | some v => exact clip_eq v n n
theorem places_gen (i j : Nat) : Builtin.Slice.slicePlaces (i : Int) (j : Int) 1 = j - i := by
  unfold Builtin.Slice.slicePlaces
  have h1 : (1 : Int) > 0 := by omega
  simp only [h1, if_true, Int.ediv_one]
  split <;> omega
theorem slicePart_ {v : Value} {o : Option Int} {Q : Option Int → Shared → Prop} (p : IsPart v o) (h : Q o s) : wpAny (model prog w) A (Builtin.Slice.slicePartIndex v) Q E s := by
  cases p with
  | none => exact slicePart_none h
  | int i t => exact slicePart_int h
theorem sliceApplied_gen {sl : Addr} {vl vu : Value} {lo hi : Option Int} {n : Nat} {Q : Int × Int × Nat → Shared → Prop} (hs : s.heap.IsSliceOf sl vl vu .none) (pl : IsPart vl lo) (pu : IsPart vu hi)
    (h : Q (((sIx n 0 lo : Nat) : Int), 1, sIx n n hi - sIx n 0 lo) s) : wpAny (model prog w) A (Builtin.Slice.sliceApplied (.ref sl) (pure (n : Int))) Q E s := by
  obtain ⟨os, hos, hcs, hds⟩ := id hs
  unfold Builtin.Slice.sliceApplied Builtin.Slice.sliceFields
  refine wpAny_bind (wpAny_bind (wpAny_field hos hds (x := vl) rfl (wpAny_bind (wpAny_field hos hds (x := vu) rfl (wpAny_bind (wpAny_field hos hds (x := .none) rfl (wpAny_pure ?_)))))))
  refine wpAny_bind (slicePart_none ?_)
  show wpAny _ _ (if ((1 : Int) == 0) = true then _ else _) _ _ s
  rw [if_neg (by decide)]
  refine wpAny_bind (slicePart_ pl (wpAny_bind (slicePart_ pu (wpAny_bind (wpAny_pure ?_)))))
  show wpAny _ _ (match Builtin.Slice.sliceAdjust lo hi 1 (n : Int) with | (lo, hi) => pure (lo, (1 : Int), Builtin.Slice.slicePlaces lo hi 1)) _ _ s
  rw [adjust_gen lo hi n]
  show wpAny _ _ (pure (((sIx n 0 lo : Nat) : Int), (1 : Int), Builtin.Slice.slicePlaces ((sIx n 0 lo : Nat) : Int) ((sIx n n hi : Nat) : Int) 1)) _ _ s
  rw [places_gen]
  exact wpAny_pure h
theorem pick_gen (xs : Array Value) (i k : Nat) : ((List.range k).filterMap fun (m : Nat) => xs[((i : Int) + (m : Int) * 1).toNat]?).toArray = ((xs.toList.drop i).take k).toArray := by
  have e : (fun (m : Nat) => xs[((i : Int) + (m : Int) * 1).toNat]?) = fun m => xs[i + m]? := by
    funext m
    have : ((i : Int) + (m : Int) * 1).toNat = i + m := by omega
    rw [this]
  rw [e]
  have := pick_run xs i k
  rw [List.filterMap_map] at this
  have e2 : ((fun x => xs[x]?) ∘ fun x => i + x) = fun m => xs[i + m]? := rfl
  rw [e2] at this
  rw [this]

theorem getItem_tuple_cut {t sl : Addr} {items : Array Value} {vl vu : Value} {lo hi : Option Int} {Q : Value → Shared → Prop} (ht : IsTup s.heap t items) (hs : s.heap.IsSliceOf sl vl vu .none) (pl : IsPart vl lo) (pu : IsPart vu hi)
    (hw : ¬ (sIx items.size 0 lo = 0 ∧ sIx items.size items.size hi = items.size))
    (h : Q (.ref s.heap.objs.size) { s with heap := s.heap.push { cls := .type "tuple", data := .seq ((items.toList.drop (sIx items.size 0 lo)).take (sIx items.size items.size hi - sIx items.size 0 lo)).toArray } })
    (hsz : items.size ≤ sizeLine) : wpAny (model prog w) A (getItem (.ref t) (.ref sl)) Q E s := by
  have htake : sizeOk (.seq ((items.toList.drop (sIx items.size 0 lo)).take (sIx items.size items.size hi - sIx items.size 0 lo)).toArray) := by
    show ((items.toList.drop (sIx items.size 0 lo)).take (sIx items.size items.size hi - sIx items.size 0 lo)).toArray.size ≤ sizeLine
    rw [List.size_toArray, List.length_take, List.length_drop, Array.length_toList]
    omega
  have hj : sIx items.size items.size hi ≤ items.size := sIx_le _ _ (Nat.le_refl _) hi
  obtain ⟨os, hos, hcs, hds⟩ := id hs
  have hTs : s.TypeIs (.ref sl) "slice" := ⟨os, hos, hcs⟩
  unfold getItem
  try with_reducible refine wpAny_holding ?_
  first | refine wpAny_bind (wpAny_pure ?_) | skip
  refine wpAny_bind (wpAny_sequenceKey ht.typeIs (by decide) ?_)
  refine wpAny_bind (wpAny_callSpecial?_slot (name := Str.ofString "__getitem__") ht.typeIs PyProof.Rows.slot_tuple_getitem
    (wpAny_call_entry PyProof.Rows.slot_tuple_getitem ht.typeIs entry_tuple_getitem ?_ (args_tuple_getitem _ _)))
  show wpAny _ _ (Builtin.Tuple.tupleItemsOf (.ref t) >>= _) _ _ s
  refine wpAny_bind (tupleItemsOf_ ht ?_)
  refine wpAny_bind (wpAny_typeOf hTs ?_)
  rw [if_pos (by decide)]
  refine wpAny_bind (sliceApplied_gen hs pl pu ?_)
  have hno : ¬ ((((sIx items.size 0 lo : Nat) : Int) == 0 && (1 : Int) == 1 && (sIx items.size items.size hi - sIx items.size 0 lo) == items.size) = true) := by
    intro q
    rw [Bool.and_eq_true, Bool.and_eq_true] at q
    have q1 : ((sIx items.size 0 lo : Nat) : Int) = 0 := eq_of_beq q.1.1
    have q2 : sIx items.size items.size hi - sIx items.size 0 lo = items.size := eq_of_beq q.2
    exact hw ⟨by omega, by omega⟩
  show wpAny _ _ (if (((sIx items.size 0 lo : Nat) : Int) == 0 && (1 : Int) == 1 && (sIx items.size items.size hi - sIx items.size 0 lo) == items.size) = true then _ else _) _ _ s
  rw [if_neg hno, pick_gen]
  first
    | exact wpAny_bind (m := Builtin.Tuple.tupleExact _) (wpAny_newObj_type (wpAny_pure ⟨_, rfl, wpAny_pure h⟩) htake)
    | exact wpAny_bind (m := Builtin.Tuple.tupleExact _) (wpAny_newObj_type (wpAny_bind (wpAny_pure (wpAny_pure ⟨_, rfl, wpAny_pure h⟩))) htake)
    | exact wpAny_bind (wpAny_bind (m := Builtin.Tuple.tupleExact _) (wpAny_newObj_type (wpAny_pure (wpAny_pure ⟨_, rfl, wpAny_pure h⟩)) htake))
    | exact wpAny_bind (wpAny_bind (m := Builtin.Tuple.tupleExact _) (wpAny_newObj_type (wpAny_pure ⟨_, rfl, wpAny_pure h⟩) htake))
end
end HT

namespace L2
open PySem PySem.Spec PyProof.Rows

/-! ### the parts of a slice -/
abbrev TO := St → Hp → (Option Int → Hp → Prop) → Prop
/-- a slice's part (left out, or an int) -/
def PO (X : Cx) (e : Option Expr) (t : TO) : Prop :=
  ∀ (pins : List (Addr × Obj)) (s : Shared) (σ : St) (H : Hp) (Q : Option Int → Hp → Prop), Inv X pins σ H s → t σ H Q →
    wpAny (model X.prog X.w) X.A (evalPart e X.env) (fun u s' => ∃ o H', Inv X pins σ H' s' ∧ IsPart u o ∧ Q o H') X.xe s
def tNoPart : TO := fun _ H Q => Q none H
def tPart (t : TE) : TO := fun σ H Q => t σ H fun x H1 => ∃ i, x = .int i ∧ Q (some i) H1

theorem intsAre_of {ns : List Int} : ∀ {us : List Value}, Vals (ns.map V.int) us → IntsAre us ns := by
  induction ns with
  | nil => intro us r; rw [List.map_nil] at r; cases r; exact .nil
  | cons n ns ih =>
    intro us r
    rw [List.map_cons] at r
    cases r with
    | cons r1 r2 =>
      obtain ⟨t, e⟩ := r1
      subst e
      exact .cons n t (ih r2)

section
variable {X : Cx} {e : Expr} {te : TE} {lo hi : Option Expr} {tl th : TO} {pos p2 : Pos}

theorem po_none : PO X none tNoPart := by
  intro pins s σ H Q I h
  rw [evalPart_none]
  exact wpAny_pure ⟨none, H, I, .none, h⟩
theorem po_some (h : PE X e te) : PO X (some e) (tPart te) := by
  intro pins s σ H Q I hw
  rw [evalPart_some]
  refine thn (h pins s σ H _ I hw) fun u s1 ⟨x, H1, I1, r1, q1⟩ => ?_
  obtain ⟨i, rfl, q⟩ := q1
  obtain ⟨t, rfl⟩ := r1
  exact ⟨some i, H1, I1, .int i t, q⟩

/-- what a slice of a value is, by values: the slice object stands at sl -/
def SlR (X : Cx) (r : V → Option Int → Option Int → Hp → VK → Prop) : Prop :=
  ∀ (pins : List (Addr × Obj)) (s : Shared) (σ : St) (H : Hp) (x : V) (v vl vu : Value) (lo hi : Option Int) (sl : Addr) (Q : VK), Inv X pins σ H s → RelV x v → s.heap.IsSliceOf sl vl vu .none → IsPart vl lo → IsPart vu hi → r x lo hi H Q →
    ∃ T id, typeLookup (.type T) "__getitem__" = pure (some (.builtin id)) ∧ s.TypeIs v T ∧ wpAny (model X.prog X.w) X.A (getItem v (.ref sl)) (EP X pins σ Q) X.xe s
theorem SlR.or {r r' : V → Option Int → Option Int → Hp → VK → Prop} (h : SlR X r) (h' : SlR X r') : SlR X (fun x lo hi H Q => r x lo hi H Q ∨ r' x lo hi H Q) := by
  intro pins s σ H x v vl vu lo hi sl Q I rx hs pl pu q
  rcases q with q | q
  · exact h pins s σ H x v vl vu lo hi sl Q I rx hs pl pu q
  · exact h' pins s σ H x v vl vu lo hi sl Q I rx hs pl pu q
def tSl (r : V → Option Int → Option Int → Hp → VK → Prop) (te : TE) (tl th : TO) : TE := fun σ H Q => te σ H fun x H1 => tl σ H1 fun l H2 => th σ H2 fun u H3 => r x l u H3 Q
/-- a[lo:hi], any a -/
theorem pe_slice {r : V → Option Int → Option Int → Hp → VK → Prop} (hr : SlR X r) (he : PE X e te) (hl : PO X lo tl) (hu : PO X hi th) : PE X (.Subscript e (.Slice lo hi none p2) pos) (tSl r te tl th) := by
  intro pins s σ H Q I h
  refine Subscript_ (thn (he pins s σ H _ I h) fun v s1 ⟨x, H1, I1, r1, q1⟩ => ?_)
  refine wpAny_Slice (thn (hl pins s1 σ H1 _ I1 q1) fun vl s2 ⟨l, H2, I2, pl, q2⟩ => thn (hu pins s2 σ H2 _ I2 q2) fun vu s3 ⟨u, H3, I3, pu, q3⟩ => ?_)
  rw [evalPart_none]
  refine wpAny_pure ?_
  have I4 : Inv X pins σ H3 { s3 with heap := s3.heap.push { cls := .type "slice", data := .fields #[vl, vu, .none] } } := I3.kept (t' := s3.toks) fun b ob q => Heap.get?_push_of_some _ q
  obtain ⟨T, id, hT, ht, hg⟩ := hr pins { s3 with heap := s3.heap.push { cls := .type "slice", data := .fields #[vl, vu, .none] } } σ H3 x v vl vu l u s3.heap.objs.size Q I4 r1 (Heap.IsSliceOf.new ..) pl pu q3
  show wpAny (model X.prog X.w) X.A (subscriptTail e (.Slice lo hi none p2) v (.ref s3.heap.objs.size)) (EP X pins σ Q) X.xe { s3 with heap := s3.heap.push { cls := .type "slice", data := .fields #[vl, vu, .none] } }
  exact tail_any (ops := [.ref s3.heap.objs.size, v]) ht hT hg (by with_unfolding_all rfl)

/-- the items of xs[lo:hi] -/
def cutV (xs : List V) (lo hi : Option Int) : List V := (xs.drop (HT.sIx xs.length 0 lo)).take (HT.sIx xs.length xs.length hi - HT.sIx xs.length 0 lo)
theorem cutV_length (xs : List V) (lo hi : Option Int) : (cutV xs lo hi).length ≤ xs.length := by
  unfold cutV
  rw [List.length_take, List.length_drop]
  omega
/-- t[lo:hi], not the whole of it (the whole would be t itself) -/
def rSlT (K : PySem.W.Frag) : V → Option Int → Option Int → Hp → VK → Prop := fun x lo hi H Q => ∃ a xs, x = .ref a ∧ SqT K H a xs ∧
  ¬ (HT.sIx xs.length 0 lo = 0 ∧ HT.sIx xs.length xs.length hi = xs.length) ∧ ∀ p, H p = none → Q (.ref p) (upd H p (.tup (cutV xs lo hi)))
theorem sl_tup : SlR X (rSlT X.K) := by
  intro pins s σ H x v vl vu lo hi sl Q I rx hs pl pu h
  obtain ⟨a, xs, rfl, hx, hw, q⟩ := h
  cases rx
  obtain ⟨its, r, ht, hz⟩ := I.tuple hx
  have hlen : its.toArray.size = xs.length := by rw [List.size_toArray]; exact r.length.symm
  refine ⟨"tuple", _, PyProof.Rows.slot_tuple_getitem.lookup, ht.typeIs, ?_⟩
  refine HT.getItem_tuple_cut ht hs pl pu (by rw [hlen]; exact hw) ?_ (by rw [hlen]; exact hz)
  rw [hlen]
  refine ⟨.ref s.heap.objs.size, _, I.laid (t' := s.toks) (o := .tup (cutV xs lo hi)) (fun b ob q => Heap.get?_push_of_some _ q) (Nat.le_refl _) ?_, rfl, q _ (I.hok.fresh (Nat.le_refl _))⟩
  exact ⟨Nat.le_trans (cutV_length xs lo hi) hz, _, (r.drop (HT.sIx xs.length 0 lo)).take (HT.sIx xs.length xs.length hi - HT.sIx xs.length 0 lo), IsTup.new _ _⟩

/-! ### t < u, t + u -/
def rLtT (K : PySem.W.Frag) : R2 := fun x y H Q => ∃ a b ns ms, x = .ref a ∧ y = .ref b ∧ SqT K H a (ns.map V.int) ∧ SqT K H b (ms.map V.int) ∧ Q (.bl (HT.lexLt ns ms)) H
theorem op_ltT (hu : X.A.units < cLine) : OpR X (compareOp .Lt) (rLtT X.K) := by
  intro pins s σ H x y v u Q I rx ry h
  obtain ⟨a, b, ns, ms, rfl, rfl, ha, hb, q⟩ := h
  cases rx
  cases ry
  obtain ⟨its, r1, p1, _⟩ := I.tuple ha
  obtain ⟨its2, r2, p2, _⟩ := I.tuple hb
  have i1 : IntsAre its.toArray.toList ns := intsAre_of r1
  have i2 : IntsAre its2.toArray.toList ms := intsAre_of r2
  exact HT.lt_tupInts p1 p2 i1 i2 hu ⟨.bl (HT.lexLt ns ms), H, I, rfl, q⟩
/-- t + u, t not empty: u empty gives t itself -/
def rCatT (K : PySem.W.Frag) : R2 := fun x y H Q => ∃ a b xs ys, x = .ref a ∧ y = .ref b ∧ SqT K H a xs ∧ SqT K H b ys ∧ xs ≠ [] ∧ xs.length + ys.length ≤ sizeLine ∧
  (ys = [] → Q (.ref a) H) ∧ (ys ≠ [] → ∀ p, H p = none → Q (.ref p) (upd H p (.tup (xs ++ ys))))
theorem Vals.nil_iff {xs : List V} {us : List Value} (r : Vals xs us) : us = [] ↔ xs = [] := by
  cases r with
  | nil => simp
  | cons _ _ => simp
theorem op_catT : OpR X (binaryOp .Add) (rCatT X.K) := by
  intro pins s σ H x y v u Q I rx ry h
  obtain ⟨a, b, xs, ys, rfl, rfl, ha, hb, hx, hz, q1, q2⟩ := h
  cases rx
  cases ry
  obtain ⟨its, r1, p1, _⟩ := I.tuple ha
  obtain ⟨its2, r2, p2, _⟩ := I.tuple hb
  refine HT.cat_tup p1 p2 (fun z => hx (r1.nil_iff.mp z)) (fun z => ⟨.ref a, H, I, rfl, q1 (r2.nil_iff.mp z)⟩) (fun z => ?_) (by rw [← r1.length, ← r2.length]; exact hz)
  refine ⟨.ref s.heap.objs.size, _, I.laid (t' := s.toks) (o := .tup (xs ++ ys)) (fun b ob q => Heap.get?_push_of_some _ q) (Nat.le_refl _) ?_, rfl, q2 (fun w => z (r2.nil_iff.mpr w)) _ (I.hok.fresh (Nat.le_refl _))⟩
  exact ⟨by rw [List.length_append]; exact hz, _, r1.append r2, IsTup.new _ _⟩
/-- tuple(t) -/
theorem call_tupleT : CallR X (.type "tuple") (fun xs H Q => ∃ a ys, xs = [.ref a] ∧ SqT X.K H a ys ∧ Q (.ref a) H) := by
  intro pins s σ H xs us Q I r h
  obtain ⟨a, ys, rfl, ha, q⟩ := h
  obtain ⟨u, rfl, ru⟩ := vals1 r
  cases ru
  obtain ⟨its, _, p1, _⟩ := I.tuple ha
  exact call_tuple_same (items := its.toArray) p1 ⟨.ref a, H, I, rfl, q⟩
end
end L2

namespace L2
open PySem PySem.Spec PyProof.Rows

/-! ### places -/
/-- the place that an index of any sign means -/
def ixN (n : Nat) (i : Int) : Option Nat := if 0 ≤ i then (if i < n then some i.toNat else none) else if -(n : Int) ≤ i then some (i + n).toNat else none
def atI {α : Type} (xs : List α) (i : Int) : Option α := (ixN xs.length i).bind fun j => xs[j]?
theorem ixN_seq {n : Nat} {i : Int} {j : Nat} (h : ixN n i = some j) : seqIndex? i n = some j ∧ j < n ∧ -(n : Int) ≤ i ∧ i < n := by
  unfold ixN at h
  by_cases h0 : 0 ≤ i
  · rw [if_pos h0] at h
    by_cases h1 : i < n
    · rw [if_pos h1] at h
      have e : i.toNat = j := Option.some.inj h
      exact ⟨by rw [seqIndex_of h0 h1, e], by omega, by omega, h1⟩
    · rw [if_neg h1] at h; cases h
  · rw [if_neg h0] at h
    by_cases h1 : -(n : Int) ≤ i
    · rw [if_pos h1] at h
      have e : (i + n).toNat = j := Option.some.inj h
      exact ⟨by rw [seqIndex_neg (by omega) h1, e], by omega, h1, by omega⟩
    · rw [if_neg h1] at h; cases h
theorem atI_get {α : Type} {xs : List α} {i : Int} {v : α} (h : atI xs i = some v) : ∃ j, seqIndex? i xs.length = some j ∧ xs[j]? = some v ∧ j < xs.length ∧ -(xs.length : Int) ≤ i ∧ i < xs.length := by
  unfold atI at h
  cases e : ixN xs.length i with
  | none => rw [e] at h; cases h
  | some j =>
    rw [e] at h
    obtain ⟨h1, h2, h3, h4⟩ := ixN_seq e
    exact ⟨j, h1, h, h2, h3, h4⟩
theorem atI_nat {α : Type} {xs : List α} {j : Nat} {v : α} (h : xs[j]? = some v) : atI xs (j : Int) = some v := by
  have hj : j < xs.length := (List.getElem?_eq_some_iff.mp h).1
  have e : ixN xs.length (j : Int) = some j := by
    unfold ixN
    rw [if_pos (by omega), if_pos (by omega)]; simp
  unfold atI; rw [e]; exact h
theorem atI_last {α : Type} (xs : List α) (v : α) : atI (xs ++ [v]) (-1) = some v := by
  have hl : (xs ++ [v]).length = xs.length + 1 := by simp
  have e : ixN (xs ++ [v]).length (-1) = some xs.length := by
    unfold ixN
    rw [hl, if_neg (by decide), if_pos (by omega)]
    congr 1
    omega
  unfold atI
  rw [e]
  show (xs ++ [v])[xs.length]? = some v
  simp

/-! ### what may be subscripted -/
/-- what stands as an index of a plain subscript -/
def PlainIx (b : Expr) : Prop := ∀ o i, subscripted b false o i = operate [o, i] (getItem o i)
/-- a subscript by values -/
def IxR (X : Cx) (r : R2) : Prop :=
  ∀ (value slice : Expr) (pins : List (Addr × Obj)) (s : Shared) (σ : St) (H : Hp) (x y : V) (v u : Value) (Q : VK), Inv X pins σ H s → RelV x v → RelV y u → r x y H Q →
    subscripted slice false v u = operate [v, u] (getItem v u) → wpAny (model X.prog X.w) X.A (subscriptTail value slice v u) (EP X pins σ Q) X.xe s
/-- a call of a builtin's method by values: the receiver, the arguments -/
def MtR (X : Cx) (id : String) (r : V → List V → Hp → VK → Prop) : Prop :=
  ∀ (pins : List (Addr × Obj)) (s : Shared) (σ : St) (H : Hp) (x : V) (xs : List V) (v : Value) (us : List Value) (Q : VK), Inv X pins σ H s → RelV x v → Vals xs us → r x xs H Q →
    wpAny (model X.prog X.w) X.A (call (.builtin id) (v :: us)) (EP X pins σ Q) X.xe s
section
variable {X : Cx} {a b : Expr} {ta tb : TE} {pos : Pos}
theorem IxR.or {r r' : R2} (h : IxR X r) (h' : IxR X r') : IxR X (fun x y H Q => r x y H Q ∨ r' x y H Q) := by
  intro value slice pins s σ H x y v u Q I rx ry q hs
  rcases q with q | q
  · exact h value slice pins s σ H x y v u Q I rx ry q hs
  · exact h' value slice pins s σ H x y v u Q I rx ry q hs
theorem MtR.or {id : String} {r r' : V → List V → Hp → VK → Prop} (h : MtR X id r) (h' : MtR X id r') : MtR X id (fun x xs H Q => r x xs H Q ∨ r' x xs H Q) := by
  intro pins s σ H x xs v us Q I rx rs q
  rcases q with q | q
  · exact h pins s σ H x xs v us Q I rx rs q
  · exact h' pins s σ H x xs v us Q I rx rs q
/-- a[b] -/
theorem pe_ix {r : R2} (hr : IxR X r) (ha : PE X a ta) (hb : PE X b tb) (hs : PlainIx b) : PE X (.Subscript a b pos) (tOp r ta tb) := by
  intro pins s σ H Q I h
  exact Subscript_ (binT ha hb I h fun v u s2 x y H2 I2 rx ry q => hr a b pins s2 σ H2 x y v u Q I2 rx ry q (hs _ _))

def rIxL (K : PySem.W.Frag) : R2 := fun x y H Q => ∃ p xs i v, x = .ref p ∧ y = .int i ∧ SqL K H p xs ∧ atI xs i = some v ∧ Q v H
def rIxT (K : PySem.W.Frag) : R2 := fun x y H Q => ∃ p xs i v, x = .ref p ∧ y = .int i ∧ SqT K H p xs ∧ atI xs i = some v ∧ Q v H
def rIxS : R2 := fun x y H Q => ∃ z i c, x = .str z ∧ y = .int i ∧ z.length ≤ sizeLine ∧ atI z.cps.toList i = some c ∧ Q (.str ⟨#[c]⟩) H
theorem ix_list : IxR X (rIxL X.K) := by
  intro value slice pins s σ H x y v u Q I rx ry h hs
  obtain ⟨p, xs, i, z, rfl, rfl, hq, he, q⟩ := h
  cases rx
  obtain ⟨t, rfl⟩ := ry
  obtain ⟨its, r, pl, hz⟩ := I.list hq
  obtain ⟨j, h1, h2, h3, h4, h5⟩ := atI_get he
  obtain ⟨w, ew, rw'⟩ := r.get h2
  have hl := r.length
  have hn := line63
  have fin : EP X pins σ Q w s := ⟨z, H, I, rw', q⟩
  by_cases h0 : 0 ≤ i
  · have hj : i.toNat = j := by
      rw [seqIndex_of h0 h5] at h1
      exact Option.some.inj h1
    exact item_listR pl.isList h0 (by omega) (by rw [hj]; simpa using ew) fin hs
  · have hj : (i + (its.toArray.size : Int)).toNat = j := by
      rw [seqIndex_neg (by omega) h4] at h1
      rw [List.size_toArray, ← hl]
      exact Option.some.inj h1
    exact subscriptTail_builtinR (x := w) pl.isList.typeIs slot_list_getitem.lookup
      (wpAny_getItem_list_neg (Q := fun r s' => r = w ∧ EP X pins σ Q r s') pl.isList (by omega) (by rw [List.size_toArray] <;> omega) (by omega) (by rw [hj]; simpa using ew) ⟨rfl, fin⟩) hs
theorem ix_tup : IxR X (rIxT X.K) := by
  intro value slice pins s σ H x y v u Q I rx ry h hs
  obtain ⟨p, xs, i, z, rfl, rfl, hq, he, q⟩ := h
  cases rx
  obtain ⟨t, rfl⟩ := ry
  obtain ⟨its, r, pl, hz⟩ := I.tuple hq
  obtain ⟨j, h1, h2, h3, h4, h5⟩ := atI_get he
  obtain ⟨w, ew, rw'⟩ := r.get h2
  have hl := r.length
  have hn := line63
  have fin : EP X pins σ Q w s := ⟨z, H, I, rw', q⟩
  exact subscriptTail_builtinR (x := w) pl.typeIs slot_tuple_getitem.lookup
    (getItem_tuple (j := j) (Q := fun r s' => r = w ∧ EP X pins σ Q r s') pl (by omega) (by omega) (by rw [List.size_toArray, ← hl]; exact h1) (by simpa using ew) ⟨rfl, fin⟩) hs
theorem ix_str : IxR X rIxS := by
  intro value slice pins s σ H x y v u Q I rx ry h hs
  obtain ⟨z, i, c, rfl, rfl, hz, he, q⟩ := h
  obtain ⟨t, rfl⟩ := rx
  obtain ⟨t', rfl⟩ := ry
  obtain ⟨j, h1, h2, h3, h4, h5⟩ := atI_get he
  have hl : z.cps.toList.length = z.length := by simp [Str.length]
  rw [hl] at h1 h4 h5
  have hn := line63
  exact tail_any (typeIs_str s z t) slot_str_getitem.lookup (getItem_str (c := c) (by
    have e1 : decide (i < -(2 ^ 63 : Int)) = false := decide_eq_false (by omega)
    have e2 : decide (i ≥ 2 ^ 63) = false := decide_eq_false (by omega)
    rw [e1, e2, Bool.or_false]) (by rw [h1]; simpa using h2) ⟨.str ⟨#[c]⟩, H, I.tok _, ⟨_, rfl⟩, q⟩) hs
/-- list, tuple or str -/
def rIx (K : PySem.W.Frag) : R2 := fun x y H Q => rIxL K x y H Q ∨ rIxT K x y H Q ∨ rIxS x y H Q
theorem ix_seq : IxR X (rIx X.K) := ix_list.or (ix_tup.or ix_str)

/-! ### xs[i] = v, any sign -/
/-- the list's object behind a store -/
theorem mapSeq_set (its : List Value) (n j : Nat) (u : Value) : Obj.mapSeq (·.setIfInBounds j u) { cls := .type "list", data := .seq its.toArray n } = { cls := .type "list", data := .seq (its.set j u).toArray n } := by
  simp [Obj.mapSeq]
theorem Inv.lst {pins : List (Addr × Obj)} {σ : St} {H : Hp} {s : Shared} {p : Addr} {xs : List V} (I : Inv X pins σ H s) (h : H p = some (.lst xs)) :
    ∃ (its : List Value) (n : Nat), Vals xs its ∧ s.heap.get? p = some { cls := .type "list", data := .seq its.toArray n } ∧ xs.length ≤ sizeLine := by
  obtain ⟨z, its, n, r, e⟩ := I.hok p _ h
  exact ⟨its, n, r, e, z⟩
/-- the list at p is written by an update of its object -/
theorem Inv.lstUpd {pins : List (Addr × Obj)} {σ : St} {H : Hp} {s : Shared} {p : Addr} {xs ys : List V} {its its' : List Value} {n n' : Nat} {f : Obj → Obj} (I : Inv X pins σ H s) (h : H p = some (.lst xs))
    (ho : s.heap.get? p = some { cls := .type "list", data := .seq its.toArray n }) (hf : f { cls := .type "list", data := .seq its.toArray n } = { cls := .type "list", data := .seq its'.toArray n' }) (r : Vals ys its') (hz : ys.length ≤ sizeLine) (t : Nat) :
    Inv X pins σ (upd H p (.lst ys)) { s with heap := s.heap.update p f, toks := t } := by
  have e : (s.heap.update p f).get? p = some { cls := .type "list", data := .seq its'.toArray n' } := by
    rw [Heap.get?_update_self f ho (by rw [hf] <;> rfl), hf]
  refine I.write (x := p) (e := p) (by rw [h]; trivial) (.inl rfl) (fun b u hb q => (Heap.get?_update_other _ _ (Ne.symm hb)).trans q) ⟨_, e⟩ ?_
  exact ⟨hz, its', n', r, e⟩
def rSetL : V → V → V → Hp → (Hp → Prop) → Prop := fun o i v H Q => ∃ p xs k j, o = .ref p ∧ i = .int k ∧ H p = some (.lst xs) ∧ ixN xs.length k = some j ∧ Q (upd H p (.lst (xs.set j v)))
theorem set_list : PSet X rSetL := by
  intro pins s σ H o i v ov iv u Q I ro ri rv h
  obtain ⟨p, xs, k, j, rfl, rfl, hp, hj, q⟩ := h
  cases ro
  obtain ⟨t, rfl⟩ := ri
  obtain ⟨its, n, r, ho, hz⟩ := I.lst hp
  obtain ⟨h1, h2, h3, h4⟩ := ixN_seq hj
  have hl := r.length
  have hn := line63
  have I' : Inv X pins σ (upd H p (.lst (xs.set j v))) { s with heap := s.heap.update p (Obj.mapSeq (·.setIfInBounds j u)) } :=
    I.lstUpd hp ho (mapSeq_set its n j u) (r.set rv j) (by rw [List.length_set]; exact hz) s.toks
  by_cases h0 : 0 ≤ k
  · have hk : k.toNat = j := by
      rw [seqIndex_of h0 h4] at h1
      exact Option.some.inj h1
    exact PySem.W.ki_setAt ho h0 (by omega) (by rw [List.size_toArray, ← hl]; exact h4) (by rw [hk]; exact ⟨_, I', q⟩)
  · have hk : (k + (its.toArray.size : Int)).toNat = j := by
      rw [seqIndex_neg (by omega) h3] at h1
      rw [List.size_toArray, ← hl]
      exact Option.some.inj h1
    exact PySem.W.ki_setBack ho (by omega) (by rw [List.size_toArray, ← hl]; exact h3) (by omega) (by rw [hk]; exact ⟨_, I', q⟩)

/-! ### slices -/
theorem slice_bounds (lo hi : Option Int) (n : Nat) : (sliceBounds lo hi none n).1 = ((HT.sIx n 0 lo : Nat) : Int) ∧ (sliceBounds lo hi none n).2.1 = ((HT.sIx n n hi : Nat) : Int) ∧ (sliceBounds lo hi none n).2.2 = 1 := by
  refine ⟨?_, ?_, rfl⟩
  · cases lo with
    | none => simp [sliceBounds, HT.sIx]
    | some i =>
      simp only [sliceBounds, HT.sIx, Option.getD_none, show (1 : Int) > 0 by decide, if_true]
      by_cases h : i < 0
      · simp only [h, if_true] <;> omega
      · simp only [h, if_false] <;> omega
  · cases hi with
    | none => simp [sliceBounds, HT.sIx]
    | some i =>
      simp only [sliceBounds, HT.sIx, Option.getD_none, show (1 : Int) > 0 by decide, if_true]
      by_cases h : i < 0
      · simp only [h, if_true] <;> omega
      · simp only [h, if_false] <;> omega
theorem slicePick_cut (its : List Value) (lo hi : Option Int) : slicePick its.toArray lo hi none = ((its.drop (HT.sIx its.length 0 lo)).take (HT.sIx its.length its.length hi - HT.sIx its.length 0 lo)).toArray := by
  obtain ⟨h1, h2, h3⟩ := slice_bounds lo hi its.toArray.size
  unfold slicePick
  rw [h1, h2, h3]
  simp only [sliceRange_one, pick_run, List.size_toArray] <;> rfl
/-- xs[lo:hi] of a list: a new list -/
def rSlL (K : PySem.W.Frag) : V → Option Int → Option Int → Hp → VK → Prop := fun x lo hi H Q => ∃ a xs, x = .ref a ∧ SqL K H a xs ∧ ∀ p, H p = none → Q (.ref p) (upd H p (.lst (cutV xs lo hi)))
theorem sl_list : SlR X (rSlL X.K) := by
  intro pins s σ H x v vl vu lo hi sl Q I rx hs pl pu h
  obtain ⟨a, xs, rfl, hx, q⟩ := h
  cases rx
  obtain ⟨its, r, ht, hz⟩ := I.list hx
  have hlen := r.length
  refine ⟨"list", _, slot_list_getitem.lookup, ht.isList.typeIs, ?_⟩
  refine wpAny_getItem_list_slice ht.isList hs pl pu .none (by simp) ?_ (by rw [List.size_toArray] <;> omega)
  rw [slicePick_cut, ← hlen]
  refine ⟨.ref s.heap.objs.size, _, I.laid (t' := s.toks) (o := .lst (cutV xs lo hi)) (fun b ob q => Heap.get?_push_of_some _ q) (Nat.le_refl _) ?_, rfl, q _ (I.hok.fresh (Nat.le_refl _))⟩
  exact ⟨Nat.le_trans (cutV_length xs lo hi) hz, _, 0, (r.drop (HT.sIx xs.length 0 lo)).take (HT.sIx xs.length xs.length hi - HT.sIx xs.length 0 lo), Heap.get?_push_size _ rfl⟩

/-! ### in, not in: flat items -/
def flatV : V → Bool
  | .non => true
  | .bl _ => true
  | .int _ => true
  | .str _ => true
  | _ => false
/-- == of flat values -/
def eqV : V → V → Bool
  | .non, .non => true
  | .bl a, .bl b => a == b
  | .bl a, .int b => (if a then 1 else 0) == b
  | .int a, .bl b => a == (if b then 1 else 0)
  | .int a, .int b => a == b
  | .str a, .str b => a == b
  | _, _ => false
theorem eqAt_V {A : Around} {s : Shared} {y x : V} {u v : Value} (ry : RelV y u) (rx : RelV x v) (fy : flatV y = true) (fx : flatV x = true) : SeqAt.EqAt A s u v (eqV y x) := by
  cases y with
  | non =>
    cases ry
    cases x with
    | non => cases rx; exact SeqAt.EqAt.same _
    | bl b => cases rx; exact SeqAt.EqAt.none_bool b
    | int b => obtain ⟨t, rfl⟩ := rx; exact SeqAt.EqAt.none_int b t
    | str b => obtain ⟨t, rfl⟩ := rx; exact SeqAt.EqAt.none_str b t
    | _ => exact absurd (show false = true from fx) Bool.false_ne_true
  | bl a =>
    cases ry
    cases x with
    | non => cases rx; exact SeqAt.EqAt.bool_none a
    | bl b => cases rx; exact SeqAt.EqAt.bool_bool a b
    | int b => obtain ⟨t, rfl⟩ := rx; exact SeqAt.EqAt.bool_int a b t
    | str b => obtain ⟨t, rfl⟩ := rx; exact SeqAt.EqAt.bool_str a b t
    | _ => exact absurd (show false = true from fx) Bool.false_ne_true
  | int a =>
    obtain ⟨t', rfl⟩ := ry
    cases x with
    | non => cases rx; exact SeqAt.EqAt.int_none a t'
    | bl b => cases rx; exact SeqAt.EqAt.int_bool a t' b
    | int b => obtain ⟨t, rfl⟩ := rx; exact SeqAt.EqAt.int_int a t' b t
    | str b => obtain ⟨t, rfl⟩ := rx; exact SeqAt.EqAt.int_str a t' b t
    | _ => exact absurd (show false = true from fx) Bool.false_ne_true
  | str a =>
    obtain ⟨t', rfl⟩ := ry
    cases x with
    | non => cases rx; exact SeqAt.EqAt.str_none a t'
    | bl b => cases rx; exact SeqAt.EqAt.str_bool a t' b
    | int b => obtain ⟨t, rfl⟩ := rx; exact SeqAt.EqAt.str_int a t' b t
    | str b => obtain ⟨t, rfl⟩ := rx; exact SeqAt.EqAt.str_str a t' b t
    | _ => exact absurd (show false = true from fx) Bool.false_ne_true
  | _ => exact absurd (show false = true from fy) Bool.false_ne_true
/-- the items' answers, read off the values (a value's own answer does not lean on its token) -/
def eqU (x : V) (u : Value) : Bool := match u with
  | .none => eqV .non x
  | .bool b => eqV (.bl b) x
  | .int i _ => eqV (.int i) x
  | .str z _ => eqV (.str z) x
  | _ => false
theorem eqU_of {x y : V} {u : Value} (r : RelV y u) (f : flatV y = true) : eqU x u = eqV y x := by
  cases y with
  | non => cases r; rfl
  | bl b => cases r; rfl
  | int i => obtain ⟨t, rfl⟩ := r; rfl
  | str z => obtain ⟨t, rfl⟩ := r; rfl
  | _ => exact absurd (show false = true from f) Bool.false_ne_true
theorem any_eqU {x : V} : ∀ {xs : List V} {us : List Value}, Vals xs us → xs.all flatV = true → us.any (eqU x) = xs.any fun y => eqV y x
  | _, _, .nil, _ => rfl
  | y :: xs, u :: us, .cons r t, f => by
    rw [List.all_cons, Bool.and_eq_true] at f
    rw [List.any_cons, List.any_cons, eqU_of r f.1, any_eqU t f.2]
theorem mem_eqAt {A : Around} {s : Shared} {x : V} {v : Value} (rx : RelV x v) (fx : flatV x = true) : ∀ {xs : List V} {us : List Value}, Vals xs us → xs.all flatV = true → ∀ u ∈ us, SeqAt.EqAt A s u v (eqU x u)
  | _, _, .nil, _ => fun u hu => by cases hu
  | y :: xs, u :: us, .cons r t, f => fun u' hu => by
    rw [List.all_cons, Bool.and_eq_true] at f
    rcases List.mem_cons.mp hu with rfl | hu
    · rw [eqU_of r f.1]; exact eqAt_V r rx f.1 fx
    · exact mem_eqAt rx fx t f.2 u' hu
def inV (x : V) (xs : List V) : Bool := xs.any fun y => eqV y x
/-- x in a list or tuple of flat items -/
def rIn (K : PySem.W.Frag) (neg : Bool) : R2 := fun x y H Q => ∃ p xs, y = .ref p ∧ (SqL K H p xs ∨ SqT K H p xs) ∧ flatV x = true ∧ xs.all flatV = true ∧ Q (.bl (if neg then !inV x xs else inV x xs)) H
theorem op_in_seq : OpR X (compareOp .In) (rIn X.K false) := by
  intro pins s σ H x y v u Q I rx ry h
  obtain ⟨p, xs, rfl, hq, fx, fs, q⟩ := h
  cases ry
  rcases hq with hq | hq
  · obtain ⟨its, r, pl, hz⟩ := I.list hq
    refine SeqAt.in_listAt (eqU x) pl.isList (fun w hw => mem_eqAt rx fx r fs w (by simpa using hw)) ⟨.bl _, H, I, rfl, ?_⟩
    rw [show its.toArray.any (eqU x) = its.any (eqU x) by simp, any_eqU r fs]
    exact q
  · obtain ⟨its, r, pl, hz⟩ := I.tuple hq
    refine SeqAt.in_tupleAt (eqU x) pl (fun w hw => mem_eqAt rx fx r fs w (by simpa using hw)) ⟨.bl _, H, I, rfl, ?_⟩
    rw [show its.toArray.any (eqU x) = its.any (eqU x) by simp, any_eqU r fs]
    exact q
theorem op_notIn_seq : OpR X (compareOp .NotIn) (rIn X.K true) := by
  intro pins s σ H x y v u Q I rx ry h
  obtain ⟨p, xs, rfl, hq, fx, fs, q⟩ := h
  cases ry
  rcases hq with hq | hq
  · obtain ⟨its, r, pl, hz⟩ := I.list hq
    refine SeqAt.notIn_listAt (eqU x) pl.isList (fun w hw => mem_eqAt rx fx r fs w (by simpa using hw)) ⟨.bl _, H, I, rfl, ?_⟩
    rw [show its.toArray.any (eqU x) = its.any (eqU x) by simp, any_eqU r fs]
    exact q
  · obtain ⟨its, r, pl, hz⟩ := I.tuple hq
    refine SeqAt.notIn_tupleAt (eqU x) pl (fun w hw => mem_eqAt rx fx r fs w (by simpa using hw)) ⟨.bl _, H, I, rfl, ?_⟩
    rw [show its.toArray.any (eqU x) = its.any (eqU x) by simp, any_eqU r fs]
    exact q
theorem op_notIn_str : OpR X (compareOp .NotIn) (fun x y H Q => ∃ i j, x = .str i ∧ y = .str j ∧ Q (.bl (!(!(Builtin.Str.occurrences j i 0 j.length 1).isEmpty))) H) := by
  intro pins s σ H x y v u Q I rx ry h
  obtain ⟨i, j, rfl, rfl, q⟩ := h
  obtain ⟨t, rfl⟩ := rx
  obtain ⟨t', rfl⟩ := ry
  exact notIn_str ⟨.bl _, H, I, rfl, q⟩

/-! ### len, list(x), tuple(x) of any list or tuple that is read -/
theorem call_len_seq : CallR X (.builtin "len") (fun xs H Q => ∃ p ys, xs = [.ref p] ∧ (SqL X.K H p ys ∨ SqT X.K H p ys) ∧ Q (.int ys.length) H) := by
  intro pins s σ H xs us Q I r h
  obtain ⟨p, ys, rfl, hq, q⟩ := h
  obtain ⟨u, rfl, rx⟩ := vals1 r
  cases rx
  have hn := line63
  rcases hq with hq | hq
  · obtain ⟨its, r', pl, hz⟩ := I.list hq
    have hlen := r'.length
    exact Calls.call_len_list pl.isList (by simp only [List.size_toArray] <;> omega) ⟨.int ys.length, H, I.tok _, ⟨s.toks + 1, by rw [List.size_toArray, hlen]⟩, q⟩
  · obtain ⟨its, r', pl, hz⟩ := I.tuple hq
    have hlen := r'.length
    exact len_tuple pl (by simp only [List.size_toArray] <;> omega) ⟨.int ys.length, H, I.tok _, ⟨s.toks + 1, by rw [List.size_toArray, hlen]⟩, q⟩
theorem call_len_str : CallR X (.builtin "len") (fun xs H Q => ∃ z, xs = [.str z] ∧ z.length ≤ sizeLine ∧ Q (.int z.length) H) := by
  intro pins s σ H xs us Q I r h
  obtain ⟨z, rfl, hz, q⟩ := h
  obtain ⟨u, rfl, t, rfl⟩ := vals1 r
  have hn := line63
  exact len_str (by omega) ⟨.int z.length, H, I.tok _, ⟨_, rfl⟩, q⟩
theorem CallR.or {f : Value} {r r' : List V → Hp → VK → Prop} (h : CallR X f r) (h' : CallR X f r') : CallR X f (fun xs H Q => r xs H Q ∨ r' xs H Q) := by
  intro pins s σ H xs us Q I rs q
  rcases q with q | q
  · exact h pins s σ H xs us Q I rs q
  · exact h' pins s σ H xs us Q I rs q
theorem call_list_of : CallR X (.type "list") (fun xs H Q => ∃ p ys, xs = [.ref p] ∧ (SqL X.K H p ys ∨ SqT X.K H p ys) ∧ ∀ l, H l = none → Q (.ref l) (upd H l (.lst ys))) := by
  intro pins s σ H xs us Q I r h
  obtain ⟨p, ys, rfl, hq, q⟩ := h
  obtain ⟨u, rfl, rx⟩ := vals1 r
  cases rx
  have fin : ∀ (its : List Value), Vals ys its → ys.length ≤ sizeLine → ∀ (h' : Heap) (c' : Nat), (∀ b o', s.heap.get? b = some o' → h'.get? b = some o') →
      h'.get? s.heap.objs.size = some { cls := .type "list", dict := none, data := .seq its.toArray c', slots := #[] } → EP X pins σ Q (.ref s.heap.objs.size) { s with heap := h' } := fun its r' hz h' c' kp e =>
    ⟨.ref s.heap.objs.size, _, I.laid (t' := s.toks) kp (Nat.le_refl _) (show ObjOk X.prog X.w _ h' _ (.lst ys) from ⟨hz, its, c', r', e⟩), rfl, q _ (I.hok.fresh (Nat.le_refl _))⟩
  rcases hq with hq | hq
  · obtain ⟨its, r', pl, hz⟩ := I.list hq
    have hlen := r'.length
    obtain ⟨o, ho, hc, n, hd⟩ := pl.isList
    exact call_list_seq p (.inl rfl) ho hc hd (fun h' c' kp e => fin its r' hz h' c' kp e) (by simp only [List.size_toArray] <;> omega)
  · obtain ⟨its, r', pl, hz⟩ := I.tuple hq
    have hlen := r'.length
    obtain ⟨o, ho, hc, n, hd⟩ := pl
    exact call_list_seq p (.inr rfl) ho hc hd (fun h' c' kp e => fin its r' hz h' c' kp e) (by simp only [List.size_toArray] <;> omega)
theorem call_tuple_of : CallR X (.type "tuple") (fun xs H Q => ∃ p ys, xs = [.ref p] ∧ ((SqL X.K H p ys ∧ ∀ l, H l = none → Q (.ref l) (upd H l (.tup ys))) ∨ (SqT X.K H p ys ∧ Q (.ref p) H))) := by
  intro pins s σ H xs us Q I r h
  obtain ⟨p, ys, rfl, h⟩ := h
  obtain ⟨u, rfl, rx⟩ := vals1 r
  cases rx
  rcases h with ⟨hq, q⟩ | ⟨hq, q⟩
  · obtain ⟨its, r', pl, hz⟩ := I.list hq
    have hlen := r'.length
    refine call_tuple_list pl.isList (fun h' kp => ?_) (by simp only [List.size_toArray] <;> omega)
    have I1 : Inv X pins σ H { s with heap := h' } := I.kept (t' := s.toks) kp
    have I2 : Inv X pins σ (upd H h'.objs.size (.tup ys)) { s with heap := h'.push { cls := .type "tuple", data := .seq its.toArray } } :=
      I1.laid (t' := s.toks) (fun b o e => Heap.get?_push_of_some _ e) (Nat.le_refl _) (show ObjOk X.prog X.w _ _ _ (.tup ys) from ⟨hz, its, r', IsTup.new _ _⟩)
    exact ⟨.ref h'.objs.size, _, I2, rfl, q _ (I1.hok.fresh (Nat.le_refl _))⟩
  · obtain ⟨its, r', pl, hz⟩ := I.tuple hq
    exact call_tuple_same pl ⟨.ref p, H, I, rfl, q⟩

/-! ### the call of a builtin's method: o.m(..) -/
/-- the value is of that builtin type -/
def tyV (K : PySem.W.Frag) (T : String) (x : V) (H : Hp) : Prop := match x with
  | .str _ => T = "str"
  | .int _ => T = "int"
  | .ref p => (T = "list" ∧ ∃ xs, SqL K H p xs) ∨ (T = "tuple" ∧ ∃ o, K.lookup p = some o ∧ o.cls = .type "tuple" ∧ o.dict = none) ∨
      (T = "dict" ∧ ((∃ kvs, H p = some (.dK kvs)) ∨ ∃ kvs, H p = some (.dT kvs))) ∨ (T = "set" ∧ ∃ S n, H p = some (.set S n))
  | _ => False
theorem tyV_is {pins : List (Addr × Obj)} {σ : St} {H : Hp} {s : Shared} {T : String} {x : V} {v : Value} (I : Inv X pins σ H s) (r : RelV x v) (ty : tyV X.K T x H) :
    s.TypeIs v T ∧ ∀ a, v = .ref a → ∃ ob, s.heap.get? a = some ob ∧ ob.dict = none := by
  cases x with
  | str z =>
    obtain ⟨t, rfl⟩ := r
    cases (show T = "str" from ty)
    exact ⟨typeIs_str s z t, fun _ e => nomatch e⟩
  | int i =>
    obtain ⟨t, rfl⟩ := r
    cases (show T = "int" from ty)
    exact ⟨typeIs_int s i t, fun _ e => nomatch e⟩
  | ref p =>
    cases r
    rcases ty with ⟨rfl, xs, hq⟩ | ⟨rfl, o, hk, hc, hd⟩ | ⟨rfl, hk⟩ | ⟨rfl, S, n, hk⟩
    · obtain ⟨its, _, pl, _⟩ := I.list hq
      refine ⟨pl.isList.typeIs, fun a e => ?_⟩
      cases e
      obtain ⟨o, n, e, c, hd, _⟩ := pl
      exact ⟨o, e, hd⟩
    · refine ⟨⟨o, I.kIn p o hk, hc⟩, fun a e => ?_⟩
      cases e
      exact ⟨o, I.kIn _ o hk, hd⟩
    · have z : ∃ o, s.heap.get? p = some o ∧ o.ExactDict := by
        rcases hk with ⟨kvs, hk⟩ | ⟨kvs, hk⟩
        · obtain ⟨_, _, _, _, o, _, _, e, ex, _⟩ := I.hok p _ hk
          exact ⟨o, e, ex⟩
        · obtain ⟨_, _, _, _, o, _, _, e, ex, _⟩ := I.hok p _ hk
          exact ⟨o, e, ex⟩
      obtain ⟨o, e, ex⟩ := z
      refine ⟨⟨o, e, ex.1⟩, fun a e2 => ?_⟩
      cases e2
      exact ⟨o, e, ex.2.1⟩
    · obtain ⟨o, _, _, _, e, ex, _⟩ := I.hok p _ hk
      refine ⟨⟨o, e, ex.1⟩, fun a e2 => ?_⟩
      cases e2
      exact ⟨o, e, ex.2.1⟩
  | _ => exact False.elim ty
def tBM0 (K : PySem.W.Frag) (T : String) (r : V → List V → Hp → VK → Prop) (to : TE) : TE := fun σ H Q => to σ H fun x H1 => tyV K T x H1 ∧ r x [] H1 Q
def tBM (K : PySem.W.Frag) (T : String) (r : V → List V → Hp → VK → Prop) (to : TE) (t : TA) : TE := fun σ H Q => to σ H fun x H1 => tyV K T x H1 ∧ t σ H1 fun xs H2 => r x xs H2 Q
variable {o e : Expr} {es : List Expr} {to : TE} {t : TA} {name : Str} {apos cpos : Pos} {T id : String} {r : V → List V → Hp → VK → Prop}
theorem pe_bm0 (pa : PlainAttrs T) (slot : Slot T name id) (hty : typeOf (.builtin id) = pure (.type "method_descriptor")) (hm : MtR X id r) (ho : PE X o to)
    (hbase : attributeBase o name X.env (eval o X.env) = eval o X.env := by rfl) (hline : (apos.endLine == cpos.line) = true := by rfl) : PE X (.Call (.Attribute o name apos) [] [] cpos) (tBM0 X.K T r to) := by
  intro pins s σ H Q I h
  refine wpAny_Call_method0_late hbase hline (thn (ho pins s σ H _ I h) fun v s1 ⟨x, H1, I1, r1, ty, q1⟩ => ?_)
  obtain ⟨h1, h2⟩ := tyV_is I1 r1 ty
  exact ⟨T, id, pa, slot, hty, h1, h2, Calls.callWith_builtin rfl (PySem.evalArgs_none (hm pins s1 σ H1 x [] v [] Q I1 r1 .nil q1))⟩
theorem pe_bm (pa : PlainAttrs T) (slot : Slot T name id) (hty : typeOf (.builtin id) = pure (.type "method_descriptor")) (hm : MtR X id r) (ho : PE X o to) (ha : PA X (e :: es) t)
    (hbase : attributeBase o name X.env (eval o X.env) = eval o X.env := by rfl)
    (hfew : ((backTo cpos (starEach (e :: es) X.env)).all (fun x => !x.1) && (backToKw cpos (keywordEach [] X.env)).all (fun x => x.1.isSome)
      && decide ((e :: es).length + ([] : List Keyword).length + (if ([] : List Keyword).isEmpty then 0 else 1) < 30)) = true := by rfl)
    (hline : (apos.endLine == cpos.line) = true := by rfl) (hs : starEach (e :: es) X.env = (false, eval e X.env) :: starEach es X.env := by rfl) (hplain : (backTo cpos (starEach es X.env)).any (·.1) = false := by rfl) :
    PE X (.Call (.Attribute o name apos) (e :: es) [] cpos) (tBM X.K T r to t) := by
  intro pins s σ H Q I h
  refine wpAny_Call_method_late hbase hfew hline rfl (thn (ho pins s σ H _ I h) fun v s1 ⟨x, H1, I1, r1, ty, q1⟩ => ?_)
  obtain ⟨h1, h2⟩ := tyV_is I1 r1 ty
  refine ⟨T, id, pa, slot, hty, h1, h2, ?_⟩
  have hA := ha cpos pins s1 σ H1 _ I1 q1
  rw [hs] at hA ⊢
  refine Calls.callWith_builtin (by show (false || (backTo cpos (starEach es X.env)).any (·.1)) = false; rw [hplain] <;> rfl) (Calls.evalArgs_plain ?_)
  exact thn hA fun us s2 ⟨vs, H2, I2, r2, q2⟩ => hm pins s2 σ H2 x vs v us Q I2 r1 r2 q2
/- xs.append(e), list.index on a module's tuple .. are MtR facts of 06m -/
end
end L2

namespace L2
open PySem PySem.Spec PyProof.Rows

def MtM (X : Cx) (id : String) (r : V → List V → Hp → VK → Prop) : Prop :=
  ∀ (pins : List (Addr × Obj)) (s : Shared) (σ : St) (H : Hp) (x : V) (xs : List V) (v : Value) (us : List Value) (Q : VK), Inv X pins σ H s → RelV x v → Vals xs us → r x xs H Q →
    wpAny (model X.prog X.w) X.A (call (.builtin id) (v :: us)) (EP X pins σ Q) X.xe s

/-! ### lists of values -/
theorem Vals.one : ∀ {x : V} {us : List Value}, Vals [x] us → ∃ u, us = [u] ∧ RelV x u
  | _, _, .cons r .nil => ⟨_, rfl, r⟩
theorem Vals.two : ∀ {x y : V} {us : List Value}, Vals [x, y] us → ∃ u v, us = [u, v] ∧ RelV x u ∧ RelV y v
  | _, _, _, .cons r (.cons q .nil) => ⟨_, _, rfl, r, q⟩
theorem Vals.zero : ∀ {us : List Value}, Vals [] us → us = []
  | _, .nil => rfl
theorem Vals.dropLast {xs : List V} {us : List Value} (h : Vals xs us) : Vals xs.dropLast us.dropLast := by
  induction h with
  | nil => exact .nil
  | cons r t ih =>
    cases t with
    | nil => exact .nil
    | cons q t' => exact .cons r ih
theorem Vals.eraseIdx : ∀ {xs : List V} {us : List Value} (i : Nat), Vals xs us → Vals (xs.eraseIdx i) (us.eraseIdx i)
  | _, _, _, .nil => .nil
  | _, _, 0, .cons _ t => t
  | _, _, i + 1, .cons r t => .cons r (Vals.eraseIdx i t)
theorem Vals.reverse {xs : List V} {us : List Value} (h : Vals xs us) : Vals xs.reverse us.reverse := by
  induction h with
  | nil => exact .nil
  | cons r t ih => rw [List.reverse_cons, List.reverse_cons]; exact Vals.append ih (.cons r .nil)
theorem Vals.rep {xs : List V} {us : List Value} (h : Vals xs us) : ∀ k : Nat, Vals (List.replicate k xs).flatten (List.replicate k us).flatten
  | 0 => .nil
  | k + 1 => by
    rw [List.replicate_succ, List.replicate_succ, List.flatten_cons, List.flatten_cons]
    exact Vals.append h (Vals.rep h k)
theorem erase_last {α : Type} (l : List α) : l.eraseIdx (l.length - 1) = l.dropLast := by
  induction l with
  | nil => rfl
  | cons a r ih =>
    cases r with
    | nil => rfl
    | cons b r =>
      have e : (a :: b :: r).length - 1 = ((b :: r).length - 1) + 1 := by
        have h1 : (a :: b :: r).length = r.length + 2 := rfl
        have h2 : (b :: r).length = r.length + 1 := rfl
        omega
      rw [e, List.eraseIdx_cons_succ, ih]
      all_goals rfl
theorem len_erase {α : Type} : ∀ (l : List α) (i : Nat), (l.eraseIdx i).length ≤ l.length
  | [], _ => Nat.le_refl _
  | _ :: _, 0 => Nat.le_succ _
  | _ :: r, i + 1 => Nat.succ_le_succ (len_erase r i)
theorem foldl_rep (its : List Value) : ∀ (k : Nat) (acc : List Value),
    List.foldl (fun x1 x2 => x1 ++ x2) acc.toArray (List.replicate k its.toArray) = (acc ++ (List.replicate k its).flatten).toArray
  | 0, acc => by simp
  | k + 1, acc => by
    have e : acc.toArray ++ its.toArray = (acc ++ its).toArray := by simp
    have e2 : (acc ++ its) ++ (List.replicate k its).flatten = acc ++ (List.replicate (k + 1) its).flatten := by
      rw [List.replicate_succ, List.flatten_cons, List.append_assoc]
    rw [← e2, ← foldl_rep its k (acc ++ its), ← e, List.replicate_succ, List.foldl_cons]

section
variable {X : Cx} {pins : List (Addr × Obj)} {σ : St} {H : Hp} {s : Shared} {l b : Addr} {xs ys zs : List V}

/-! ### the two steps: a tracked list is rewritten, a new list is laid -/
theorem Inv.lset {its its' : List Value} {n : Nat} {f : Array Value → Array Value} {t' : Nat} (I : Inv X pins σ H s) (hH : H l = some (.lst xs))
    (e : s.heap.get? l = some { cls := .type "list", data := .seq its.toArray n }) (hf : f its.toArray = its'.toArray) (hv : Vals ys its') (hz : ys.length ≤ sizeLine) :
    Inv X pins σ (upd H l (.lst ys)) { s with heap := s.heap.update l (Obj.mapSeq f), toks := t' } := by
  have q := PySem.IsL.update e f
  rw [hf] at q
  refine I.write (x := l) (e := l) (by rw [hH]; exact trivial) (.inl rfl) (fun b' u hb hu => (Heap.get?_update_other s.heap (Obj.mapSeq f) (Ne.symm hb)).trans hu) ⟨_, q⟩ ?_
  exact ⟨hz, its', _, hv, q⟩
theorem Inv.lnew {its : List Value} {t' : Nat} (I : Inv X pins σ H s) (hv : Vals ys its) (hz : ys.length ≤ sizeLine) :
    Inv X pins σ (upd H s.heap.objs.size (.lst ys)) { s with heap := s.heap.push { cls := .type "list", data := .seq its.toArray }, toks := t' } :=
  I.laid (fun _ _ q => Heap.get?_push_of_some _ q) (Nat.le_refl _) ⟨hz, its, 0, hv, Heap.get?_push_size _ rfl⟩
theorem Inv.fresh (I : Inv X pins σ H s) : H s.heap.objs.size = none := I.hok.fresh (Nat.le_refl _)
theorem Inv.lstM (I : Inv X pins σ H s) (hH : H l = some (.lst xs)) : xs.length ≤ sizeLine ∧ ∃ (its : List Value) (n : Nat), Vals xs its ∧ xs.length = its.length ∧ s.heap.get? l = some { cls := .type "list", data := .seq its.toArray n } := by
  obtain ⟨z, its, n, r, e⟩ := I.hok l _ hH
  exact ⟨z, its, n, r, r.length, e⟩

theorem notLongL {n : Nat} (h : n ≤ sizeLine) : Builtin.List.listTooLong n = false := by
  unfold Builtin.List.listTooLong
  exact decide_eq_false (by omega)
end

section
variable {X : Cx}

/-! ### methods -/
def rAppend : V → List V → Hp → VK → Prop := fun x vs H Q => ∃ l xs y, x = .ref l ∧ vs = [y] ∧ H l = some (.lst xs) ∧ xs.length < sizeLine ∧ Q .non (upd H l (.lst (xs ++ [y])))
theorem mt_append : MtM X "list.append" rAppend := by
  intro pins s σ H x vs v us Q I rx rv h
  obtain ⟨l, xs, y, rfl, rfl, hH, hz, q⟩ := h
  cases rx
  obtain ⟨u, rfl, ru⟩ := rv.one
  obtain ⟨z, its, n, r, hl, e⟩ := I.lstM hH
  refine call_meets F.slot_list_append ⟨_, e, rfl⟩ F.entry_list_append (F.args_list_append_2 _ _) (PySem.list_append l its.toArray n u (by rw [List.size_toArray]; omega)) ⟨e, ?_⟩
  refine ⟨.non, _, I.lset (its' := its ++ [u]) hH e (by simp) (r.append (.cons ru .nil)) ?_, rfl, q⟩
  rw [List.length_append, List.length_singleton]
  omega

def rExtend : V → List V → Hp → VK → Prop := fun x vs H Q => ∃ l b xs zs, x = .ref l ∧ vs = [.ref b] ∧ H l = some (.lst xs) ∧ H b = some (.lst zs) ∧ xs.length + zs.length ≤ sizeLine ∧ Q .non (upd H l (.lst (xs ++ zs)))
theorem mt_extend : MtM X "list.extend" rExtend := by
  intro pins s σ H x vs v us Q I rx rv h
  obtain ⟨l, b, xs, zs, rfl, rfl, hH, hB, hz, q⟩ := h
  cases rx
  obtain ⟨u, rfl, ru⟩ := rv.one
  cases ru
  obtain ⟨z, its, n, r, hl, e⟩ := I.lstM hH
  obtain ⟨z2, its2, n2, r2, hl2, e2⟩ := I.lstM hB
  have hsz : its.toArray.size + its2.toArray.size ≤ sizeLine := by rw [List.size_toArray, List.size_toArray]; omega
  have hlong : ¬ (!its.toArray.isEmpty && Builtin.List.listTooLong (its.toArray.size + its2.toArray.size)) = true := by
    rw [notLongL hsz, Bool.and_false]
    exact Bool.false_ne_true
  refine call_meets F.slot_list_extend ⟨_, e, rfl⟩ F.entry_list_extend (F.args_list_extend_2 _ _)
    (AutoSeq1.list_extend_list_list_0 l its.toArray n b its2.toArray n2 hlong (by rw [List.size_toArray]; omega) (by omega)) ⟨e, e2, ?_⟩
  refine ⟨.non, _, I.lset (its' := its ++ its2) hH e (by simp) (r.append r2) ?_, rfl, q⟩
  rw [List.length_append]
  omega

def rPop : V → List V → Hp → VK → Prop := fun x vs H Q => ∃ l xs y, x = .ref l ∧ vs = [] ∧ H l = some (.lst xs) ∧ xs[xs.length - 1]? = some y ∧ Q y (upd H l (.lst xs.dropLast))
theorem mt_pop : MtM X "list.pop" rPop := by
  intro pins s σ H x vs v us Q I rx rv h
  obtain ⟨l, xs, y, rfl, rfl, hH, hy, q⟩ := h
  cases rx
  have hus := rv.zero
  subst hus
  obtain ⟨z, its, n, r, hl, e⟩ := I.lstM hH
  obtain ⟨u, hu, ru⟩ := r.get hy
  have hy' : its.toArray[its.toArray.size - 1]? = some u := by
    show its.toArray[its.length - 1]? = some u
    rw [← Array.getElem?_toList, ← hl]
    exact hu
  refine call_meets F.slot_list_pop ⟨_, e, rfl⟩ F.entry_list_pop (F.args_list_pop_1 _) (MeetsSeq.list_pop_last l its.toArray n u hy' (by rw [List.size_toArray]; omega)) ⟨e, ?_⟩
  refine ⟨y, _, I.lset (its' := its.dropLast) hH e ?_ r.dropLast ?_, ru, q⟩
  · show its.toArray.eraseIdxIfInBounds (its.toArray.size - 1) = its.dropLast.toArray
    rw [List.size_toArray, List.eraseIdxIfInBounds_toArray, erase_last]
  · rw [List.length_dropLast]
    omega

def rPopAt : V → List V → Hp → VK → Prop := fun x vs H Q => ∃ l xs i k y, x = .ref l ∧ vs = [.int i] ∧ H l = some (.lst xs) ∧ -(2 ^ 63) ≤ i ∧ i < 2 ^ 63 ∧ seqIndex? i xs.length = some k ∧ xs[k]? = some y ∧ Q y (upd H l (.lst (xs.eraseIdx k)))
theorem mt_popAt : MtM X "list.pop" rPopAt := by
  intro pins s σ H x vs v us Q I rx rv h
  obtain ⟨l, xs, i, k, y, rfl, rfl, hH, h1, h2, hk, hy, q⟩ := h
  cases rx
  obtain ⟨u, rfl, ru⟩ := rv.one
  obtain ⟨t, rfl⟩ := ru
  obtain ⟨z, its, n, r, hl, e⟩ := I.lstM hH
  obtain ⟨w, hw, rw'⟩ := r.get hy
  refine call_meets F.slot_list_pop ⟨_, e, rfl⟩ F.entry_list_pop (F.args_list_pop_2 _ _)
    (MeetsSeq.list_pop_at l its.toArray n i t k w (fitsIndex_both h1 h2) (by rw [List.size_toArray, ← hl]; exact hk) (by rw [← Array.getElem?_toList]; exact hw) (by rw [List.size_toArray]; omega)) ⟨e, ?_⟩
  refine ⟨y, _, I.lset (its' := its.eraseIdx k) hH e ?_ (r.eraseIdx k) ?_, rw', q⟩
  · show its.toArray.eraseIdxIfInBounds k = (its.eraseIdx k).toArray
    rw [List.eraseIdxIfInBounds_toArray]
  · have := len_erase xs k
    omega

def rReverse : V → List V → Hp → VK → Prop := fun x vs H Q => ∃ l xs, x = .ref l ∧ vs = [] ∧ H l = some (.lst xs) ∧ Q .non (upd H l (.lst xs.reverse))
theorem mt_reverse : MtM X "list.reverse" rReverse := by
  intro pins s σ H x vs v us Q I rx rv h
  obtain ⟨l, xs, rfl, rfl, hH, q⟩ := h
  cases rx
  have hus := rv.zero
  subst hus
  obtain ⟨z, its, n, r, hl, e⟩ := I.lstM hH
  refine call_meets F.slot_list_reverse ⟨_, e, rfl⟩ F.entry_list_reverse (F.args_list_reverse_1 _) (AutoSeq1.list_reverse_list_0 l its.toArray n (by rw [List.size_toArray]; omega)) ⟨e, ?_⟩
  refine ⟨.non, _, I.lset (its' := its.reverse) hH e (by simp) r.reverse ?_, rfl, q⟩
  rw [List.length_reverse]
  omega

def rClear : V → List V → Hp → VK → Prop := fun x vs H Q => ∃ l xs, x = .ref l ∧ vs = [] ∧ H l = some (.lst xs) ∧ Q .non (upd H l (.lst []))
theorem mt_clear : MtM X "list.clear" rClear := by
  intro pins s σ H x vs v us Q I rx rv h
  obtain ⟨l, xs, rfl, rfl, hH, q⟩ := h
  cases rx
  have hus := rv.zero
  subst hus
  obtain ⟨z, its, n, r, hl, e⟩ := I.lstM hH
  refine call_meets F.slot_list_clear ⟨_, e, rfl⟩ F.entry_list_clear (F.args_list_clear_1 _) (AutoSeq1.list_clear_list_0 l its.toArray n (by rw [List.size_toArray]; omega)) ⟨e, ?_⟩
  exact ⟨.non, _, I.lset (its' := []) (ys := []) hH e rfl .nil (Nat.zero_le _), rfl, q⟩

/-! ### list + list, list += list, list * int -/
def rCat : R2 := fun x y H Q => ∃ l b xs zs, x = .ref l ∧ y = .ref b ∧ H l = some (.lst xs) ∧ H b = some (.lst zs) ∧ xs.length + zs.length ≤ sizeLine ∧ ∀ p, H p = none → Q (.ref p) (upd H p (.lst (xs ++ zs)))
theorem op_cat : OpR X (binaryOp .Add) rCat := by
  intro pins s σ H x y v u Q I rx ry h
  obtain ⟨l, b, xs, zs, rfl, rfl, hH, hB, hz, q⟩ := h
  cases rx
  cases ry
  obtain ⟨z, its, n, r, hl, e⟩ := I.lstM hH
  obtain ⟨z2, its2, n2, r2, hl2, e2⟩ := I.lstM hB
  refine PySem.P.add_list e e2 ?_ (by rw [List.size_toArray, List.size_toArray]; omega)
  have ea : its.toArray ++ its2.toArray = (its ++ its2).toArray := by simp
  rw [ea]
  exact ⟨.ref _, _, I.lnew (t' := s.toks) (r.append r2) (by rw [List.length_append]; omega), rfl, q _ I.fresh⟩
/-- a list times an int (a negative one is nothing) -/
def rRep : R2 := fun x y H Q => ∃ l k xs, x = .ref l ∧ y = .int k ∧ H l = some (.lst xs) ∧ -(2 ^ 63) ≤ k ∧ k < 2 ^ 63 ∧ xs.length * k.toNat ≤ sizeLine ∧
  ∀ p, H p = none → Q (.ref p) (upd H p (.lst (List.replicate k.toNat xs).flatten))
theorem len_rep {α : Type} (xs : List α) (k : Nat) : (List.replicate k xs).flatten.length = k * xs.length := by
  induction k with
  | zero => simp
  | succ k ih => rw [List.replicate_succ, List.flatten_cons, List.length_append, ih, Nat.succ_mul, Nat.add_comm]
theorem op_rep : OpR X (binaryOp .Mult) rRep := by
  intro pins s σ H x y v u Q I rx ry h
  obtain ⟨l, k, xs, rfl, rfl, hH, h1, h2, hz, q⟩ := h
  cases rx
  obtain ⟨t, rfl⟩ := ry
  obtain ⟨z, its, n, r, hl, e⟩ := I.lstM hH
  have hlen : its.toArray.size * k.toNat ≤ sizeLine := by rw [List.size_toArray, ← hl]; exact hz
  have hcap : ¬ its.toArray.size * k.toNat > (2 ^ 63 - 1) / 8 := by
    have : (sizeLine : Nat) ≤ (2 ^ 63 - 1) / 8 := by decide
    omega
  have hfit : ¬ (!Builtin.List.listFitsIndex k) = true := by
    rw [fitsIndex_both h1 h2]
    exact Bool.false_ne_true
  have hlong : ¬ Builtin.List.listTooLong (its.toArray.size * k.toNat) = true := by
    rw [notLongL hlen]
    exact Bool.false_ne_true
  have hnew : List.foldl (fun x1 x2 => x1 ++ x2) #[] (List.replicate (if its.toArray.isEmpty = true then 0 else k.toNat) its.toArray) = (List.replicate k.toNat its).flatten.toArray := by
    have f0 : ∀ m : Nat, List.foldl (fun x1 x2 => x1 ++ x2) #[] (List.replicate m its.toArray) = (List.replicate m its).flatten.toArray := fun m => by
      have := foldl_rep its m []
      rw [List.nil_append] at this
      exact this
    rw [f0]
    cases its with
    | nil => simp
    | cons a r' => rw [if_neg (by simp)]
  refine wpAny_binaryOp_repeat_ref (T := "list") (U := "int") (by decide) ⟨_, e, rfl⟩ (fun s' => typeIs_int s' k t) noFill_list_mul F.fills_int_mul F.slot_int_rmul repeat_list F.slot_int_index.lookup
    (call_meets F.slot_int_rmul (typeIs_int s k t) F.entry_int_rmul (F.args_int_rmul_2 _ _) (int___rmul___int_list k t l its.toArray n)
      ⟨e, rfl, ⟨_, e, rfl⟩, call_meets F.slot_list_mul ⟨_, e, rfl⟩ F.entry_list_mul (F.args_list_mul_2 _ _) (AutoListH.list___mul___list_int_3 l its.toArray n k t hfit hcap hlong) ⟨e, ?_⟩⟩)
  rw [hnew]
  exact ⟨.ref _, _, I.lnew (t' := s.toks) (r.rep k.toNat) (by rw [len_rep, Nat.mul_comm]; exact hz), rfl, q _ I.fresh⟩

/-! ### del xs[i] -/
theorem del_list {pins : List (Addr × Obj)} {s : Shared} {σ : St} {H : Hp} {l : Addr} {xs : List V} {i : Int} {t : Tok} {k : Nat} {Q : Unit → Shared → Prop} (I : Inv X pins σ H s) (hH : H l = some (.lst xs))
    (h1 : -(2 ^ 63) ≤ i) (h2 : i < 2 ^ 63) (hk : seqIndex? i xs.length = some k) (h : ∀ s', Inv X pins σ (upd H l (.lst (xs.eraseIdx k))) s' → Q () s') :
    wpAny (model X.prog X.w) X.A (delItem (.ref l) (.int i t)) Q X.xe s := by
  obtain ⟨z, its, n, r, hl, e⟩ := I.lstM hH
  refine PySem.P.delItem_list (k := k) e (fitsIndex_both h1 h2) (by rw [List.size_toArray, ← hl]; exact hk) (h _ ?_) (by rw [List.size_toArray]; omega)
  refine I.lset (its' := its.eraseIdx k) (t' := s.toks) hH e ?_ (r.eraseIdx k) ?_
  · show its.toArray.eraseIdxIfInBounds k = (its.eraseIdx k).toArray
    rw [List.eraseIdxIfInBounds_toArray]
  · have := len_erase xs k
    omega
end

/-! ### xs[a:b] = ys -/
section
variable {prog : Program} {w : World} {A : Around} {E : Value → Shared → Prop} {s : Shared}
theorem splice_eq (its its2 : List Value) (a c : Nat) : its.toArray.extract 0 a ++ its2.toArray ++ its.toArray.extract c its.toArray.size = (its.take a ++ its2 ++ its.drop c).toArray := by
  apply Array.toList_inj.mp
  first
    | (simp
       exact List.take_of_length_le (by simp))
    | simp [List.take_of_length_le]
    | simp
theorem bounds_run {a c n : Nat} (hac : a ≤ c) (hc : c ≤ n) : sliceBounds (some (a : Int)) (some (c : Int)) none n = ((a : Int), (c : Int), 1) := by
  simp only [sliceBounds, Option.getD_none]
  have h1 : ¬ ((a : Int) < 0) := by omega
  have h2 : ¬ ((c : Int) < 0) := by omega
  simp only [h1, h2, if_false, show (1 : Int) > 0 by decide, if_true]
  congr 1
  · omega
  · congr 1; omega
set_option maxRecDepth 100000 in
/-- list.__setitem__ with a slice of step one and another list -/
theorem setItem_slice {l b sl : Addr} {items new : Array Value} {n n2 : Nat} {vl vu : Value} {a c : Nat} {Q : Unit → Shared → Prop}
    (e : s.heap.get? l = some { cls := .type "list", data := .seq items n }) (e2 : s.heap.get? b = some { cls := .type "list", data := .seq new n2 }) (hne : l ≠ b)
    (hs : s.heap.IsSliceOf sl vl vu .none) (pl : IsPart vl (some (a : Int))) (pu : IsPart vu (some (c : Int))) (hac : a ≤ c) (hc : c ≤ items.size)
    (hsz : items.size + new.size ≤ sizeLine) (h : Q () { s with heap := s.heap.update l (Obj.mapSeq fun xs => xs.extract 0 a ++ new ++ xs.extract c xs.size) }) :
    wpAny (model prog w) A (setItem (.ref l) (.ref sl) (.ref b)) Q E s := by
  have hl : s.heap.IsList l items := PySem.IsL.isList e
  have hb : s.heap.IsList b new := PySem.IsL.isList e2
  obtain ⟨os, hos, hcs, hds⟩ := id hs
  have hTs : s.TypeIs (.ref sl) "slice" := ⟨os, hos, hcs⟩
  have hstep : ¬ ((rawPart none == rawInt 0) = true) := Bool.false_ne_true
  have hsame : Builtin.List.listSameRef (.ref l) (.ref b) = false := by
    unfold Builtin.List.listSameRef
    exact beq_eq_false_iff_ne.mpr hne
  have hmax : (max (a : Int) (c : Int)).toNat = c := by omega
  have hz' : ((fun xs : Array Value => xs.extract 0 a ++ new ++ xs.extract c xs.size) items).size ≤ sizeLine + 1 := by
    simp only [Array.size_append, Array.size_extract]
    omega
  unfold setItem
  try with_reducible refine wpAny_holding ?_
  first | refine wpAny_bind (wpAny_pure ?_) | skip
  refine wpAny_bind (wpAny_sequenceKey hl.typeIs (by decide) ?_)
  refine wpAny_bind (wpAny_callSpecial?_slot (name := Str.ofString "__setitem__") hl.typeIs slot_list_setitem
    (wpAny_call_entry slot_list_setitem hl.typeIs entry_list_setitem ?_ (args_list_setitem _ _ _)))
  show wpAny _ _ (Builtin.List.listSubscript? (.ref sl) >>= _) _ _ s
  refine wpAny_bind ?_
  unfold Builtin.List.listSubscript?
  refine wpAny_bind (wpAny_specialOf hTs slice_no_index ?_)
  simp only [Option.isNone_none, if_true]
  refine wpAny_pure ?_
  show wpAny _ _ (typeOf (.ref sl) >>= _) _ _ s
  refine wpAny_bind (wpAny_typeOf hTs ?_)
  first
    | rw [if_neg (by decide)]
    | refine PySem.W.KFB.if_not (by decide) ?_
  rw [listSliceParts_eq]
  refine wpAny_bind (wpAny_bind (wpAny_field hos hds (x := .none) rfl (wpAny_bind (wpAny_listPart .none ?_))))
  rw [if_neg hstep]
  refine wpAny_bind (wpAny_field hos hds (x := vl) rfl (wpAny_bind (wpAny_listPart pl ?_)))
  refine wpAny_bind (wpAny_field hos hds (x := vu) rfl (wpAny_bind (wpAny_listPart pu (wpAny_pure ?_))))
  first
    | simp only [hsame, Bool.false_eq_true, if_false]
    | refine PySem.W.KFB.if_not hsame ?_
    | (dsimp only
       rw [if_neg (by rw [hsame]; exact Bool.false_ne_true)])
  refine wpAny_bind (m := Builtin.List.listAllItems (.ref b) "must assign iterable to extended slice") ?_
  unfold Builtin.List.listAllItems
  refine wpAny_bind (wpAny_typeOf hb.typeIs ?_)
  first
    | refine PySem.W.KFB.if_so (by decide) ?_
    | rw [if_pos (by decide)]
    | simp only [beq_self_eq_true, Bool.true_or, if_true]
  unfold Builtin.List.listItems
  refine wpAny_bind (wpAny_seqItems e2 rfl (wpAny_pure ?_))
  refine wpAny_bind (wpAny_bind (wpAny_seqItems e rfl (wpAny_pure ?_)))
  refine wpAny_bind (wpAny_of_eq ((sliceIndices_raw (some (a : Int)) (some (c : Int)) none items.size (by simp)).trans (congrArg (pure : Int × Int × Int → Sem (Int × Int × Int)) (bounds_run hac hc))) ?_)
  show wpAny _ _ (if ((1 : Int) == 1) = true then _ else _) _ _ s
  rw [if_pos (by decide)]
  refine wpAny_bind (wpAny_rule ?_)
  first
    | simp only [notLongL hsz, Bool.false_eq_true, if_false]
    | refine PySem.W.KFB.if_not (notLongL hsz) ?_
  first | refine wpAny_bind (wpAny_pure ?_) | skip
  show wpAny _ _ (updateSeq l (fun xs => xs.extract 0 ((a : Int)).toNat ++ new ++ xs.extract (max (a : Int) (c : Int)).toNat xs.size) >>= _) _ _ s
  rw [hmax, Int.toNat_natCast]
  refine wpAny_bind (wpAny_updateSeq (hz := Nat.le_trans (Nat.le_add_right _ _) hsz) (_hz' := hz') e rfl ?_)
  refine wpAny_bind (wpAny_letGo ?_)
  first
    | exact wpAny_bind (wpAny_pure (wpAny_pure ⟨.none, rfl, wpAny_pure h⟩))
    | exact wpAny_pure ⟨.none, rfl, wpAny_pure h⟩
end

section
variable {X : Cx}
/-- xs[a:c] = ys of another list, at the value level: sl is the slice object that was just made -/
theorem set_slice {pins : List (Addr × Obj)} {s : Shared} {σ : St} {H : Hp} {l b sl : Addr} {xs ys : List V} {a c : Int} {vl vu : Value} {Q : Unit → Shared → Prop} (I : Inv X pins σ H s)
    (hH : H l = some (.lst xs)) (hB : H b = some (.lst ys)) (hne : l ≠ b) (hs : s.heap.IsSliceOf sl vl vu .none) (ra : RelV (.int a) vl) (rc : RelV (.int c) vu) (h0 : 0 ≤ a) (hac : a ≤ c) (hc : c ≤ xs.length)
    (hz : xs.length + ys.length ≤ sizeLine) (h : ∀ s', Inv X pins σ (upd H l (.lst (xs.take a.toNat ++ ys ++ xs.drop c.toNat))) s' → Q () s') :
    wpAny (model X.prog X.w) X.A (setItem (.ref l) (.ref sl) (.ref b)) Q X.xe s := by
  obtain ⟨ta, rfl⟩ := ra
  obtain ⟨tc, rfl⟩ := rc
  obtain ⟨z, its, n, r, hl, e⟩ := I.lstM hH
  obtain ⟨z2, its2, n2, r2, hl2, e2⟩ := I.lstM hB
  obtain ⟨a', rfl⟩ := Int.eq_ofNat_of_zero_le h0
  obtain ⟨c', rfl⟩ := Int.eq_ofNat_of_zero_le (Int.le_trans h0 hac)
  simp only [Int.toNat_natCast] at h
  refine setItem_slice (a := a') (c := c') e e2 hne hs (.int _ _) (.int _ _) (by omega) (by rw [List.size_toArray]; omega) (by rw [List.size_toArray, List.size_toArray]; omega) (h _ ?_)
  refine I.lset (its' := its.take a' ++ its2 ++ its.drop c') (t' := s.toks) hH e ?_ (Vals.append (Vals.append (r.take _) r2) (r.drop _)) ?_
  · exact splice_eq its its2 a' c'
  · rw [List.length_append, List.length_append, List.length_take, List.length_drop]
    omega
end
end L2

namespace Att
open PySem PySem.W PySem.Calls PyProof.Rows

/-! ### the script -/
theorem ints_of_wellAll {P : Params} {h : Heap} : ∀ (ns : List Int) (vs : List Value), WellAll P h vs (ns.map WData.int) → IntsAre vs ns := by
  intro ns
  induction ns with
  | nil =>
    intro vs w
    rw [List.map_nil] at w
    cases w
    exact .nil
  | cons n ns ih =>
    intro vs w
    rw [List.map_cons] at w
    cases w with
    | cons a b =>
      cases a
      exact .cons _ _ (ih _ b)

theorem script_of {l : OpenLaw} {n : Nat} (hn : l.most = some n) {P : Params} {h : Heap} {args : List WData} {vals : List Value}
    (hpre : l.row.toRowW.claim.pre args = true) (hwl : WellAll P h vals args) :
    ∃ a vs ns, vals = [Value.ref a] ∧ args = [WData.list (ns.map WData.int)] ∧ h.get? a = some { cls := .type "list", data := .seq vs.toArray } ∧ IntsAre vs ns ∧ ns.length ≤ n := by
  have hsh : WShape.hasAll [] args [.list .int] = true := (pre_splitW hpre).1
  have hc : l.pre.holds [] { args := args } = true := (pre_splitW hpre).2
  obtain ⟨d, r, rfl, h1, h2⟩ := hasAllW_cons hsh
  obtain rfl := hasAllW_nil h2
  obtain ⟨xs, rfl, h3⟩ := hasW_list h1
  obtain ⟨ns, rfl⟩ := items_int h3
  have hlen : ns.length ≤ n := by
    unfold OpenLaw.pre at hc
    have h4 : (WTm.not (.lt (.lit (.int (n : Int))) (.len (.arg 0)))).holds [] { args := [.list (ns.map .int)] } = true := by
      have h4 := (holds_andW hc).1
      rw [hn] at h4
      exact h4
    have h5 := condW_of h4 (w_not (w_lt w_lit (w_len_list (w_arg rfl))))
    rw [List.length_map] at h5
    refine Nat.le_of_not_lt fun q => ?_
    have q' : (n : Int) < ((ns.length : Nat) : Int) := by omega
    first
      | (rw [decide_eq_true q'] at h5; exact absurd h5 (by decide))
      | (simp at h5; omega)
  cases hwl with
  | cons w1 w2 =>
    cases w2
    cases w1 with
    | list ho hall => exact ⟨_, _, ns, rfl, rfl, ho, ints_of_wellAll ns _ hall, hlen⟩

theorem post_true (l : OpenLaw) (args : List WData) : l.row.toRowW.claim.post args (.bool true) args = true :=
  postW_of (r := l.row.toRowW) (X := (true == true))
    (show WShape.has [] (.bool true) .bool = true by first | rfl | decide | simp [WShape.has, WShape.arms, WShape.armsAll])
    (show (WTm.eq .res (.lit (.bool true))).value [] { args := args, res := some (.bool true), after := args } = some (.bool (true == true)) from w_eq_bool (w_res rfl) w_lit) rfl

/-! ### the attachment: holds_open's last premise (the goal 'hc' behind k_head) from a wpAny of the law's body -/
theorem attach {l : OpenLaw} {n : Nat} {q : Program} {loose : List Str} {XP : (Str → Option Value) → Heap → Prop} {YP : World → Heap → Prop} {d : DefRec} {x : Str}
    (hn : l.most = some n) (hdf : d.params.defaults = [])
    (hbind : ∀ pm cd doc v : Value, bindArgs (docDef d.name d.params d.body d.scope pm cd doc) ⟨[v], []⟩ = pure [(x, v)])
    (hx : d.scope.names.lookup x = some .local ∨ d.scope.names.lookup x = some .cell)
    (hk : d.scope.kind = .function) (hco : d.scope.isCoroutine = false) (hgen : d.scope.isGenerator = false)
    (body : ∀ (w : World) (s₀ s₁ s : Shared) (mg mb : Str → Option Value) (fa : Addr) (o : Obj) (pm cd doc : Value) (a : Addr) (vs : List Value) (ns : List Int),
      Ground q loose [] XP w s₀ mg mb s₁.heap → YP w s₁.heap →
      s₁.heap.get? fa = some o → o.data = .func (docDef d.name d.params d.body d.scope pm cd doc) → s₁.heap.CodeRec cd d.name → mg d.name = some (.ref fa) →
      s₁.heap.get? a = some { cls := .type "list", data := .seq vs.toArray } → IntsAre vs ns → ns.length ≤ n →
      s.gens = #[] → s.os = s₁.os →
      Fr s₁.heap s₁.heap.objs.size s.heap (bindL (envOfC d.name d.scope s₁.heap.objs.size fa cd).kindOf [(x, .ref a)] fun _ => none) →
      Cl s₁.heap.objs.size (cellsFrom (s₁.heap.objs.size + 1) d.scope.names []) s.heap (bindC (envOfC d.name d.scope s₁.heap.objs.size fa cd).kindOf [(x, .ref a)] fun _ => none) →
      wpAny (model l.prog w) (callerA.deeper (envOfC d.name d.scope s₁.heap.objs.size fa cd)) (execs d.body (envOfC d.name d.scope s₁.heap.objs.size fa cd))
        (fun f s' => f = .ret (.bool true) ∧ OldK s₁.heap s'.heap ∧ s'.os = s₁.os ∧ AllBare s'.gens) (fun _ _ => False) s) :
    WalkO q loose XP YP l.row.toRowW d [] (fun f vs => PySem.call f vs) := by
  intro w s₀ s₁ mg mb G Y fa o pm cd doc dV kV ho hd hcd hD hmg hg args vals as hpre hlay hrd hwl hlo
  obtain rfl : dV = .none := Dflts.none hD hdf
  obtain rfl : kV = .none := Dflts.noKw hD
  obtain ⟨a, vs, ns, rfl, rfl, hobj, hints, hlen⟩ := script_of hn hpre hwl
  refine enter_call ?_
  refine call_cells_ret (o := o) (by rw [depth_caller]; decide) ho (fd_plain hd) G.T.nolimit hcd (hbind pm cd doc (.ref a)) (fun y hy => ?_) (fun h₁ tk F X => ?_) hco hgen hk
  · obtain rfl : y = (x, Value.ref a) := List.mem_singleton.mp hy
    rcases hx with e | e
    · exact .inl e
    · exact .inr ⟨e, cellsFrom_some _ _ _ (.inl e)⟩
  · refine wpAny_mono (body w s₀ s₁ { s₁ with heap := h₁, toks := tk } mg mb fa o pm cd doc a vs ns G Y ho (fd_plain hd) hcd hmg hobj hints hlen hg rfl F X) (fun f s' hq => ?_) (fun _ _ hq => hq)
    obtain ⟨rfl, h2, h3, h4⟩ := hq
    exact ⟨.inl ⟨.bool true, .bool true, [], rfl, fun _ => rfl, .bool true, post_true l _, fun _ => ⟨List.Pairwise.nil, fun _ hm => (nomatch hm)⟩⟩, h2, h3, h4⟩

/-- the same from a codeAny of the CALL (for a layer whose function contracts speak of calls) -/
theorem attach_call {l : OpenLaw} {n : Nat} {q : Program} {loose : List Str} {XP : (Str → Option Value) → Heap → Prop} {YP : World → Heap → Prop} {d : DefRec}
    (hn : l.most = some n) (hdf : d.params.defaults = [])
    (call : ∀ (w : World) (s₀ s₁ : Shared) (mg mb : Str → Option Value) (fa : Addr) (o : Obj) (pm cd doc : Value) (a : Addr) (vs : List Value) (ns : List Int),
      Ground q loose [] XP w s₀ mg mb s₁.heap → YP w s₁.heap →
      s₁.heap.get? fa = some o → o.data = .func (docDef d.name d.params d.body d.scope pm cd doc) → s₁.heap.CodeRec cd d.name → mg d.name = some (.ref fa) →
      s₁.heap.get? a = some { cls := .type "list", data := .seq vs.toArray } → IntsAre vs ns → ns.length ≤ n → s₁.gens = #[] →
      codeAny (model l.prog w) callerA (.call (.ref fa) ⟨[.ref a], []⟩) (fun r s' => r = .ok (.ret (.bool true)) ∧ OldK s₁.heap s'.heap ∧ s'.os = s₁.os ∧ AllBare s'.gens) s₁) :
    WalkO q loose XP YP l.row.toRowW d [] (fun f vs => PySem.call f vs) := by
  intro w s₀ s₁ mg mb G Y fa o pm cd doc dV kV ho hd hcd hD hmg hg args vals as hpre hlay hrd hwl hlo
  obtain rfl : dV = .none := Dflts.none hD hdf
  obtain rfl : kV = .none := Dflts.noKw hD
  obtain ⟨a, vs, ns, rfl, rfl, hobj, hints, hlen⟩ := script_of hn hpre hwl
  refine enter_call (codeAny_mono (call w s₀ s₁ mg mb fa o pm cd doc a vs ns G Y ho (fd_plain hd) hcd hmg hobj hints hlen hg) fun r s' hq => ?_)
  obtain ⟨rfl, h2, h3, h4⟩ := hq
  exact ⟨.inl ⟨.bool true, .bool true, [], rfl, fun _ => rfl, .bool true, post_true l _, fun _ => ⟨List.Pairwise.nil, fun _ hm => (nomatch hm)⟩⟩, h2, h3, h4⟩

/-- the same where the top left finished generators (o_head chose holds_openN): nothing may have changed at all and no generator may be left -/
theorem attachN {l : OpenLaw} {n : Nat} {q : Program} {loose : List Str} {XP : (Str → Option Value) → Heap → Prop} {YP : World → Heap → Prop} {d : DefRec} {x : Str}
    (hn : l.most = some n) (hdf : d.params.defaults = [])
    (hbind : ∀ pm cd doc v : Value, bindArgs (docDef d.name d.params d.body d.scope pm cd doc) ⟨[v], []⟩ = pure [(x, v)])
    (hx : d.scope.names.lookup x = some .local ∨ d.scope.names.lookup x = some .cell)
    (hk : d.scope.kind = .function) (hco : d.scope.isCoroutine = false) (hgen : d.scope.isGenerator = false)
    (body : ∀ (w : World) (s₀ s₁ s : Shared) (mg mb : Str → Option Value) (fa : Addr) (o : Obj) (pm cd doc : Value) (a : Addr) (vs : List Value) (ns : List Int),
      Ground q loose [] XP w s₀ mg mb s₁.heap → YP w s₁.heap →
      s₁.heap.get? fa = some o → o.data = .func (docDef d.name d.params d.body d.scope pm cd doc) → s₁.heap.CodeRec cd d.name → mg d.name = some (.ref fa) →
      s₁.heap.get? a = some { cls := .type "list", data := .seq vs.toArray } → IntsAre vs ns → ns.length ≤ n →
      s.gens = #[] → s.os = s₁.os →
      Fr s₁.heap s₁.heap.objs.size s.heap (bindL (envOfC d.name d.scope s₁.heap.objs.size fa cd).kindOf [(x, .ref a)] fun _ => none) →
      Cl s₁.heap.objs.size (cellsFrom (s₁.heap.objs.size + 1) d.scope.names []) s.heap (bindC (envOfC d.name d.scope s₁.heap.objs.size fa cd).kindOf [(x, .ref a)] fun _ => none) →
      wpAny (model l.prog w) (callerA.deeper (envOfC d.name d.scope s₁.heap.objs.size fa cd)) (execs d.body (envOfC d.name d.scope s₁.heap.objs.size fa cd))
        (fun f s' => f = .ret (.bool true) ∧ (∀ b o, s₁.heap.get? b = some o → s'.heap.get? b = some o) ∧ s'.os = s₁.os ∧ s'.gens = #[]) (fun _ _ => False) s) :
    WalkN q loose XP YP l.row.toRowW d [] (fun f vs => PySem.call f vs) := by
  intro w s₀ s₁ mg mb G Y fa o pm cd doc dV kV ho hd hcd hD hmg hg args vals as hpre hlay hrd hwl hlo
  obtain rfl : dV = .none := Dflts.none hD hdf
  obtain rfl : kV = .none := Dflts.noKw hD
  obtain ⟨a, vs, ns, rfl, rfl, hobj, hints, hlen⟩ := script_of hn hpre hwl
  refine enter_callW ?_
  refine call_cells_ret (o := o) (by rw [depth_caller]; decide) ho (fd_plain hd) G.T.nolimit hcd (hbind pm cd doc (.ref a)) (fun y hy => ?_) (fun h₁ tk F X => ?_) hco hgen hk
  · obtain rfl : y = (x, Value.ref a) := List.mem_singleton.mp hy
    rcases hx with e | e
    · exact .inl e
    · exact .inr ⟨e, cellsFrom_some _ _ _ (.inl e)⟩
  · refine wpAny_mono (body w s₀ s₁ { s₁ with heap := h₁, toks := tk } mg mb fa o pm cd doc a vs ns G Y ho (fd_plain hd) hcd hmg hobj hints hlen hg rfl F X) (fun f s' hq => ?_) (fun _ _ hq => hq)
    obtain ⟨rfl, h2, h3, h4⟩ := hq
    exact ⟨.inl ⟨.bool true, .bool true, [], rfl, fun _ => rfl, .bool true, post_true l _, fun _ => ⟨List.Pairwise.nil, fun _ hm => (nomatch hm)⟩⟩, h2, h3, h4⟩

/-! ### rules over ANY heap (no ledger) from facts about the written part K: the library's own take a ledger (News) for what they write -/
section
variable {prog : Program} {w : World} {A : Around} {E : Value → Shared → Prop} {s : Shared} {K : Frag}

/-- a def of the module, or a method (qual 'C.m'), entered: the frame is the next address; cells behind it -/
theorem call_fn {R : Result → Shared → Prop} {name qual : Str} {params : Arguments} {body : List Stmt} {scope : Scope} {dV kV doc pm cdv ct oc : Value} {an od : Option Addr} {osl : Array (Option Value)} {f : Addr} {args : Args} {binds : List (Str × Value)}
    (X : K.In s.heap) (hlim : s.heap.NoLimit) (ho : K.lookup f = some ⟨oc, od, .func (fnOf name qual params body scope dV kV doc pm an cdv ct), osl⟩) (hcd : codeIn K cdv qual = true) (hroom : A.depth < recursionLimit)
    (hbind : BindsTo s (fnOf name qual params body scope dV kV doc pm an cdv ct) args binds)
    (hkind : (binds.all fun y => scope.names.lookup y.1 == some .local || scope.names.lookup y.1 == some .cell) = true)
    (h : ∀ s₁, InCallC s s.heap.objs.size (bindL (envOfC qual scope s.heap.objs.size f cdv).kindOf binds fun _ => none) (cellsFrom (s.heap.objs.size + 1) scope.names [])
        (bindC (envOfC qual scope s.heap.objs.size f cdv).kindOf binds fun _ => none) s₁ →
      wpAny (model prog w) (A.deeper (envOfC qual scope s.heap.objs.size f cdv)) (execs body (envOfC qual scope s.heap.objs.size f cdv))
        (fun fl s' => R (.ok (.ret (match fl with | .ret v => v | _ => .none))) s')
        (fun e s' => wpAny (model prog w) (A.deeper (envOfC qual scope s.heap.objs.size f cdv)) (leaving (envOfC qual scope s.heap.objs.size f cdv) e) (fun _ s'' => R (.error e) s'') (fun e' s'' => R (.error e') s'') s') s₁)
    (hco : scope.isCoroutine = false) (hgen : scope.isGenerator = false) (hk : scope.kind = .function) : codeAny (model prog w) A (.call (.ref f) args) R s := by
  refine codeAny_call_function hroom (X _ _ ho) rfl hco hgen rfl (codeRec_of X hcd) (hbind _ _ _ _ ?_)
  refine wpAny_newFunctionEnv_cells hk (kindsX hkind _) fun env he s₁ x => ?_
  subst he
  exact ⟨hlim.keeps x.toInCall.keep, codeAny_func (h s₁ x)⟩

/-- C(..): dict at size, instance at size + 1, then __init__ -/
theorem make_obj {R : Result → Shared → Prop} {C fI : Addr} {rest : List Value} {kw : List (Str × Value)}
    (X : K.In s.heap) (hm : makesIn K C = true) (hi : findIn K (.ref C) "__init__" = some (some (.ref fI))) (hf : isFn K (.ref fI) = true)
    (h : codeAny (model prog w) (A.under (.builtin "type.__call__" ⟨.ref C :: rest, kw⟩)) (.call (.ref fI) ⟨.ref (s.heap.objs.size + 1) :: rest, kw⟩) (InitBack (s.heap.objs.size + 1) R)
      { s with heap := (s.heap.push emptyDict).push (instObj C s.heap.objs.size) }) : codeAny (model prog w) A (.call (.ref C) ⟨rest, kw⟩) R s := by
  obtain ⟨hh, g, d, t, os⟩ := s
  exact make_core (makes_of X hm) (looks_findIn X hi) (fun self => bind_fn X self (beq_iff_eq.mp hf)) (.inl rfl) h

/-- x.name where the instance's dict holds the name and the class does not -/
theorem get_field {x C : Addr} {ox : Obj} {es : List DictEntry} {n : Nat} {name : Str} {expr : Bool} {v : Value} {Q : Value → Shared → Prop}
    (X : K.In s.heap) (I : PySem.W.InstAt s.heap x ox C (some (dictOf es n))) (hg : plainGet K C name = true) (hh : hasDictIn K C = true) (ha : findIn K (.ref C) name = some none)
    (hl : getL name es = some (some v)) (hv : handedIn v = true) (h : Q v { s with toks := s.toks + 1 }) : wpAny (model prog w) A (getAttr (.ref x) name expr) Q E s :=
  get_value X I (plainGet_of hg).1 (findObj_own hh ha rfl hl) hv h

/-- x.m(..): the method found in the class -/
theorem get_method {x C f : Addr} {ox : Obj} {es : List DictEntry} {n : Nat} {name : Str} {pl : Sem Bool} {Q : Value × List Value → Shared → Prop}
    (X : K.In s.heap) (I : PySem.W.InstAt s.heap x ox C (some (dictOf es n))) (hg : plainGet K C name = true) (hf : findIn K (.ref C) name = some (some (.ref f))) (ht : isFn K (.ref f) = true)
    (hl : getL name es = some none) (h : Q (.ref f, [.ref x]) s) : wpAny (model prog w) A (getMethod (.ref x) name pl) Q E s :=
  method_fn X I (plainGet_of hg).1 (plainGet_of hg).2 hf (beq_iff_eq.mp ht) (by show (lookIn name (dictOf es n)).map _ = _; rw [lookIn_dict, hl]; rfl) h

/-! the whole heap as the ledger: makes every rule that writes through a ledger a rule over any heap -/
def noObjs (h : Heap) : Heap := { h with objs := #[] }
theorem noObjs_get (h : Heap) (b : Addr) : (noObjs h).get? b = none := by
  cases e : (noObjs h).get? b with
  | none => rfl
  | some o => exact absurd (Heap.lt_size e) (Nat.not_lt_zero _)
def ledger (h : Heap) (L d : Addr) : List (Addr × Obj) := (List.range h.objs.size).filterMap fun a => if a = L ∨ a = d then none else (h.get? a).map fun o => (a, o)
theorem mem_ledger {h : Heap} {L d a : Addr} {o : Obj} : (a, o) ∈ ledger h L d ↔ a ≠ L ∧ a ≠ d ∧ h.get? a = some o := by
  unfold ledger
  rw [List.mem_filterMap]
  constructor
  · rintro ⟨b, _, e⟩
    split at e
    · cases e
    · rename_i hb
      obtain ⟨o', ho, e'⟩ := Option.map_eq_some_iff.mp e
      cases e'
      exact ⟨fun q => hb (.inl q), fun q => hb (.inr q), ho⟩
  · rintro ⟨n1, n2, ho⟩
    refine ⟨a, List.mem_range.mpr (Heap.lt_size ho), ?_⟩
    rw [if_neg (show ¬ (a = L ∨ a = d) from fun q => q.elim n1 n2), ho] <;> rfl
theorem news_ledger {h : Heap} {L d : Addr} {od : Obj} (hne : d ≠ L) (ho : h.get? d = some od) : News (noObjs h) L h ([] ++ (d, od) :: ledger h L d) := by
  rintro ⟨a, o⟩ hp
  rcases List.mem_cons.mp hp with e | hp
  · cases e
    exact ⟨ho, hne, noObjs_get _ _⟩
  · obtain ⟨n1, n2, e⟩ := mem_ledger.mp hp
    exact ⟨e, n1, noObjs_get _ _⟩
theorem fr_all {h : Heap} {L : Addr} {m : Str → Option Value} (n : h.Ns L m) : Fr (noObjs h) L h m :=
  ⟨n, fun b o e => (by rw [noObjs_get] at e; cases e), Nat.zero_le _⟩
/-- Upd of the head entry (for append_K, setItem_K ..) -/
theorem upd_ledger {h : Heap} {L d : Addr} {o o' : Obj} : Upd d o o' ((d, o) :: ledger h L d) ((d, o') :: ledger h L d) :=
  .head fun ⟨_, _⟩ hp => (mem_ledger.mp hp).2.1

/-- x.name = v over any heap: L is any namespace of the heap (the frame's, say): its map stays, its object is not told; all else but the dict stays -/
theorem set_field {x C dx L : Addr} {ox : Obj} {m : Str → Option Value} {es es' : List DictEntry} {n n' : Nat} {name : Str} {v : Value} {Q : Unit → Shared → Prop}
    (X : K.In s.heap) (I : PySem.W.InstAt s.heap x ox C (some (dictOf es n))) (hd : ox.dict = some dx) (hL : s.heap.Ns L m) (hne : dx ≠ L)
    (hs : findIn K (.ref C) "__setattr__" = some (some (.builtin "object.__setattr__"))) (hp : plainOver K C = true) (ht : takerIn K C name = some none) (hh : hasDictIn K C = true) (hl : (getL name es).isSome = true)
    (e : (putL name (PyData.keyHash w.params name) (.str name (s.toks + 1)) v es, putN name es n) = (es', n')) (hz : es'.length ≤ 1000)
    (h : ∀ h' : Heap, h'.Ns L m → h'.get? dx = some (dictOf es' n') → (∀ b o, b ≠ dx → b ≠ L → s.heap.get? b = some o → h'.get? b = some o) → Q () { s with heap := h', toks := s.toks + 2 }) :
    wpAny (model prog w) A (setAttr (.ref x) name v) Q E s := by
  obtain ⟨e1, e2⟩ := Prod.mk.inj e
  have hdx : s.heap.get? dx = some (dictOf es n) := by
    have := I.dict
    rw [hd] at this
    exact this
  refine set_plain X I hs (osa_dict (s := { s with toks := s.toks + 1 }) (h₀ := noObjs s.heap) (L := L) (m := m) (od := dictOf es n) (od' := dictOf es' n') (es := es') (n := n') (pre := []) (post := ledger s.heap L dx)
    (fr_all hL) (news_ledger hne hdx) X I hd hp ht hh hl (fun _ q => nomatch q) (fun ⟨_, _⟩ q => (mem_ledger.mp q).2.1) (by rw [putName_dict, e1, e2]) rfl hz fun h' F' N' => ?_)
  exact h h' F'.ns (N'.get (List.Mem.head _)) fun b o n1 n2 ho => N'.get (List.Mem.tail _ (mem_ledger.mpr ⟨n2, n1, ho⟩))
end
end Att

namespace L2
open PySem PySem.Spec PyProof.Rows

theorem vals_ints : ∀ {vs : List Value} {ns : List Int}, IntsAre vs ns → Vals (ns.map V.int) vs
  | _, _, .nil => .nil
  | _, _, .cons n t h => .cons ⟨t, rfl⟩ (vals_ints h)

/-- nothing is tracked but the script, known to the object (or it is an object of the module) -/
def Only (H : Hp) : Prop := ∀ b, H b = none ∨ ∃ o xs, H b = some (.frz o (.lst xs))

/-- THE HEAD: the law's promise, at the heap behind the top. F, the promise of the law's def, may use that base is part of the heap (so K.In base, base.Ns mainGlobals mg stand in Mod) -/
theorem law_call {P : Program} {w : World} {K : PySem.W.Frag} {mg mb : Str → Option Value} {CX : CXT} {k : Nat} {fa a : Addr} {fd : FuncData} {x : Str} {sp : Sp} {s₁ : Shared} {vs : List Value} {ns : List Int}
    (KX : K.In s₁.heap) (hns : s₁.heap.Ns mainGlobals mg) (hb : s₁.heap.Ns builtinsNs mb) (hbb : ∀ x : Str, x ≠ "__name__" → mb x = bootBuiltins x) (hlim : s₁.heap.NoLimit) (hg : s₁.gens = #[])
    (ha : s₁.heap.get? a = some { cls := .type "list", data := .seq vs.toArray }) (hi : IntsAre vs ns) (hl : ns.length ≤ sizeLine) (hr : Room k callerA)
    (F : ∀ base : Heap, K.In base → base.Ns mainGlobals mg → FnOk P w K mg base CX k fa fd [x] sp) (hbind : ∀ (s : Shared) (u : Value), BindsTo s fd ⟨[u], []⟩ [(x, u)])
    (hsp : ∀ H : Hp, Only H → SqL K H a (ns.map V.int) → sp [.ref a] H (fun v _ => v = .bl true) fun _ _ _ => False)
    (hCX : ∀ H e s', CX [] H s₁ (fun _ _ _ => False) e s' → False) :
    codeAny (model P w) callerA (.call (.ref fa) ⟨[.ref a], []⟩) (fun r s' => r = .ok (.ret (.bool true)) ∧ OldK s₁.heap s'.heap ∧ s'.os = s₁.os ∧ AllBare s'.gens) s₁ := by
  have rv := vals_ints hi
  have lenV := hi.length
  -- from an abstract heap in which nothing but the script may be tracked
  have core : ∀ H : Hp, Only H → SqL K H a (ns.map V.int) → HOk P w H s₁.heap → (∀ b, H b ≠ none → b = a) → (H a ≠ none → K.lookup a = none) →
      codeAny (model P w) callerA (.call (.ref fa) ⟨[.ref a], []⟩) (fun r s' => r = .ok (.ret (.bool true)) ∧ OldK s₁.heap s'.heap ∧ s'.os = s₁.os ∧ AllBare s'.gens) s₁ := by
    intro H hO hS hok hA hK
    have base_of : ∀ {b : Addr} {o : Obj}, s₁.heap.get? b = some o → H b = none → (hidT s₁.heap H).get? b = some o := fun e n => hidT_get e n
    have noA : ∀ {b : Addr} {o : Obj} {es : Array DictEntry} {ep : Nat}, s₁.heap.get? b = some o → o.data = .dict es ep → H b = none := fun {b o es ep} e d => by
      cases q : H b with
      | none => rfl
      | some u =>
        have e' : b = a := hA b (by rw [q]; simp)
        subst e'
        rw [ha] at e; cases e
        have d' : Data.seq vs.toArray _ = Data.dict es ep := d
        cases d'
    have nsK : ∀ {b : Addr} {m : Str → Option Value}, s₁.heap.Ns b m → (hidT s₁.heap H).Ns b m := fun {b m} ⟨o, es, ep, e, d, r⟩ => ⟨o, es, ep, base_of e (noA e d), d, r⟩
    have hKb : K.In (hidT s₁.heap H) := fun b o e => base_of (KX b o e) (by
      cases q : H b with
      | none => rfl
      | some u =>
        have e' : b = a := hA b (by rw [q]; simp)
        subst e'
        rw [hK (by rw [q]; simp)] at e; cases e)
    have hM : Mod K mg (hidT s₁.heap H) := ⟨hKb, nsK hns, ⟨mb, nsK hb, hbb⟩, let ⟨mc, h1, h2⟩ := hlim; ⟨mc, nsK h1, h2⟩⟩
    have e0 : Env0 P w K mg (hidT s₁.heap H) callerA [] s₁ H := ⟨rfl, hM, fun b o e => of_hidT e, Nat.le_of_eq (hidT_size _ _), trivial, fun b hb => absurd (show b ∈ ([] : List Addr) from hb) (by simp), hok, .of_eq hg⟩
    refine codeAny_mono ((F _ hKb (nsK hns)).run callerA [] s₁ H ⟨[.ref a], []⟩ [.ref a] [.ref a] _ _ hr e0 (hbind s₁ (.ref a)) (.cons rfl .nil) (hsp H hO hS)) fun r s' h => ?_
    cases r with
    | error e => exact (hCX H e s' h).elim
    | ok fl =>
      cases fl with
      | next => exact False.elim h
      | brk => exact False.elim h
      | cont => exact False.elim h
      | ret u =>
        obtain ⟨v, H', os, bare, un, hok', r', q⟩ := h
        have q' : v = .bl true := q
        subst q'
        obtain rfl : u = Value.bool true := r'
        refine ⟨rfl, OldK.of_keep fun b o e => ?_, os, bare⟩
        cases q : H b with
        | none => exact un.keep b o e q (by intro z; exact absurd (show b ∈ ([] : List Addr) from z) (by simp)) (by simp)
        | some u =>
          rcases hO b with z | ⟨ob, xs, z⟩
          · rw [q] at z; cases z
          · have z2 := un.frzs b ob _ z
            obtain ⟨e1, _⟩ := hok b _ z
            obtain ⟨e2, _⟩ := hok' b _ z2
            rw [e] at e1; cases e1
            exact e2
  cases hk : K.lookup a with
  | some o =>
    -- the script is one of the module's own objects
    have e := KX a o hk
    rw [ha] at e
    cases e
    refine core (fun _ => none) (fun _ => .inl rfl) (.inr ⟨_, vs.toArray, _, hk, rfl, rfl, rfl, by rw [List.size_toArray, lenV]; exact hl, by simpa using rv⟩) (fun b u z => by have z' : (none : Option HO) = some u := z; cases z') (fun b z => absurd rfl z) fun z => absurd rfl z
  | none =>
    refine core (fun b => if b = a then some (.frz { cls := .type "list", data := .seq vs.toArray } (.lst (ns.map V.int))) else none) (fun b => ?_) (.inl (.inr ⟨{ cls := .type "list", data := .seq vs.toArray }, if_pos rfl⟩)) (fun b u z => ?_) (fun b z => ?_) fun _ => hk
    · by_cases hb : b = a
      · exact .inr ⟨_, _, if_pos hb⟩
      · exact .inl (if_neg hb)
    · by_cases hb : b = a
      · have z' := (if_pos hb).symm.trans z
        cases z'
        subst hb
        exact ⟨ha, by rw [List.length_map]; exact hl, vs, _, rv, ha⟩
      · have z' := (if_neg hb).symm.trans z
        cases z'
    · by_cases hb : b = a
      · exact hb
      · exact absurd (if_neg hb) z
end L2

namespace L2
open PySem PySem.Spec PyProof.Rows

abbrev KOf {K : PySem.W.Frag} {h : Heap} (_ : K.In h) : PySem.W.Frag := K

/-- the goal that k_head leaves (case hc), from the law's promise. F gives the function object fd (K's own) once, then the promise over every base -/
theorem walk_of {l : PySem.W.OpenLaw} {n k : Nat} {q : Program} {loose : List Str} {XP : (Str → Option Value) → Heap → Prop} {YP : World → Heap → Prop} {d : DefRec} {K : Params → PySem.W.Frag} {CX : World → CXT} {sp : World → Sp} {x : Str}
    (hn : l.most = some n) (hn2 : n ≤ sizeLine) (hdf : d.params.defaults = []) (hr : Room k callerA)
    (hY : ∀ (w : World) (h : Heap), YP w h → (K w.params).In h)
    (F : ∀ (w : World) (mg : Str → Option Value) (fa : Addr) (h : Heap), (K w.params).In h → h.Ns mainGlobals mg → mg d.name = some (.ref fa) →
      ∃ fd : FuncData, (∀ (s : Shared) (u : Value), BindsTo s fd ⟨[u], []⟩ [(x, u)]) ∧
        ∀ base : Heap, (K w.params).In base → base.Ns mainGlobals mg → FnOk l.prog w (K w.params) mg base (CX w) k fa fd [x] (sp w))
    (hsp : ∀ (w : World) (H : Hp) (a : Addr) (ns : List Int), ns.length ≤ n → Only H → SqL (K w.params) H a (ns.map V.int) → sp w [.ref a] H (fun v _ => v = .bl true) fun _ _ _ => False)
    (hCX : ∀ (w : World) (H : Hp) (s : Shared) (e : Value) (s' : Shared), CX w [] H s (fun _ _ _ => False) e s' → False) :
    PySem.W.WalkO q loose XP YP l.row.toRowW d [] (fun f vs => PySem.call f vs) := by
  refine Att.attach_call hn hdf fun w s₀ s₁ mg mb fa o pm cd doc a vs ns G Y ho hd hcd hmg hobj hints hlen hg => ?_
  have KX := hY w _ Y
  obtain ⟨fd, hb, hF⟩ := F w mg fa _ KX G.T.g hmg
  exact law_call KX G.T.g G.T.b G.T.builtins G.T.nolimit hg hobj hints (Nat.le_trans hlen hn2) hr hF hb (fun H hO hS => hsp w H a ns hlen hO hS) fun H e s' => hCX w H s₁ e s'
/-- the same where the promise hangs on the written part alone: (sp := My.sp_law), no hole under a binder -/
theorem walk_ofK {l : PySem.W.OpenLaw} {n k : Nat} {q : Program} {loose : List Str} {XP : (Str → Option Value) → Heap → Prop} {YP : World → Heap → Prop} {d : DefRec} {K : Params → PySem.W.Frag} {CX : CXT} {sp : PySem.W.Frag → Sp} {x : Str}
    (hn : l.most = some n) (hn2 : n ≤ sizeLine) (hdf : d.params.defaults = []) (hr : Room k callerA)
    (hY : ∀ (w : World) (h : Heap), YP w h → (K w.params).In h)
    (F : ∀ (w : World) (mg : Str → Option Value) (fa : Addr) (h : Heap), (K w.params).In h → h.Ns mainGlobals mg → mg d.name = some (.ref fa) →
      ∃ fd : FuncData, (∀ (s : Shared) (u : Value), BindsTo s fd ⟨[u], []⟩ [(x, u)]) ∧
        ∀ base : Heap, (K w.params).In base → base.Ns mainGlobals mg → FnOk l.prog w (K w.params) mg base CX k fa fd [x] (sp (K w.params)))
    (hsp : ∀ (K : PySem.W.Frag) (H : Hp) (a : Addr) (ns : List Int), ns.length ≤ n → Only H → SqL K H a (ns.map V.int) → sp K [.ref a] H (fun v _ => v = .bl true) fun _ _ _ => False)
    (hCX : ∀ (H : Hp) (s : Shared) (e : Value) (s' : Shared), CX [] H s (fun _ _ _ => False) e s' → False) :
    PySem.W.WalkO q loose XP YP l.row.toRowW d [] (fun f vs => PySem.call f vs) :=
  walk_of (K := K) (CX := fun _ => CX) (sp := fun w => sp (K w.params)) hn hn2 hdf hr hY F (fun w H a ns h1 h2 h3 => hsp (K w.params) H a ns h1 h2 h3) fun _ H s e s' => hCX H s e s'
end L2

/- THE LAST THEOREM (shape; LID, My.* are yours):
   My.Adr: a structure of the addresses that your layer names (classes, functions); My.Txt K t: a structure (Prop) of the equations over K;
   My.txt_mk : {K} {implicit addresses ..} (e1 : nsIn K mainGlobals "law" = some (some (.ref f))) (e2 : K.lookup f = some ⟨oc, od, .func (fnOf "law" "law" params body scope dV kV doc pm an cdv ct), sl⟩) (e3 : codeIn K cdv "law" = true) .. : ∃ t, My.Txt K t

set_option maxRecDepth 100000 in
set_option maxHeartbeats 0 in
theorem PySem.Challenge.cw_LID_holds : PySem.Challenge.rw_LID.Holds := by
  w_on; o_law; k_head; (case hw => w_witness2)
  k_fill
  refine L2.walk_of (l := PySem.Challenge.rw_LID) (n := 63) (k := 40) (x := "script") (CX := fun w => ..) (sp := fun _ => My.sp_law) rfl (by decide) rfl ⟨rfl, by decide, by decide⟩ (fun w h Y => PySem.W.kIn_of Y) ?F ?S ?C
  case F =>
    intro w mg fa h KX G hmg
    have T : ∃ t, My.Txt (L2.KOf KX) t := by
      dsimp only [L2.KOf]                          -- K must stand as «<heap const> w.params» for k_is
      refine' My.txt_mk ?e1 ?e2 ?e3 ..
      (case e1 => PySem.W.k_is)                    -- in the order: a name -> its address -> its object -> its parts
      (case e2 => PySem.W.k_is)
      ..
    obtain ⟨t, T⟩ := T
    have e0 := hmg.symm.trans (PySem.W.mg_of KX G T.law)
    cases e0                                       -- fa is the law's own address
    exact ⟨_, fun s u => .of_eq rfl, fun base kb nb => My.law_fn T kb nb⟩     -- if «.of_eq rfl» comes too early: refine' ⟨_, ?b, fun base kb nb => My.law_fn T kb nb⟩; exact fun s u => .of_eq rfl
  case S => exact fun w H a ns hl hO hS => ..
  case C => exact ..
(the tactic k_is has no namespace: write k_is) -/

/-! SHORT WORDS over the layer: a def of the text, its body, what a loop and a test want. -/
namespace L2
open PySem PySem.Spec PyProof.Rows

/-! ### the text by places -/
/-- the j-th statement of a class's body -/
def inClass (s : Stmt) (j : Nat) : Stmt := match s with
  | .ClassDef _ _ _ body _ _ _ _ _ _ _ => body.getD j (.Pass ⟨0, 0, 0, 0⟩)
  | _ => .Pass ⟨0, 0, 0, 0⟩
def defArgs (s : Stmt) : Arguments := match s with
  | .FunctionDef _ a _ _ _ _ _ _ _ _ => a
  | _ => { posonlyargs := [], args := [], vararg := none, kwonlyargs := [], kw_defaults := [], kwarg := none, defaults := [] }
def defBody (s : Stmt) : List Stmt := match s with
  | .FunctionDef _ _ b _ _ _ _ _ _ _ => b
  | _ => []
def defScope (s : Stmt) : Scope := match s with
  | .FunctionDef _ _ _ _ _ _ sc _ _ _ => sc
  | _ => { kind := .function, names := [], isGenerator := false, isCoroutine := false }

/-! ### no exception leaves a def -/
abbrev CX0 : CXT := fun _ _ _ _ _ _ => False
abbrev E0 : XK := fun _ _ _ => False
theorem pass0 {X : Cx} : Passes CX0 X E0 := fun _ _ _ _ _ _ _ h => h.elim

/-! ### a def (or method) of the text as it stands behind the top -/
structure Fun (K : PySem.W.Frag) (x qual : Str) (st : Stmt) (f : Addr) (fd : FuncData) : Prop where
  ex : ∃ (oc : Value) (od : Option Addr) (kV doc pm : Value) (an : Option Addr) (cdv ct : Value) (osl : Array (Option Value)),
    fd = PySem.W.fnOf x qual (defArgs st) (defBody st) (defScope st) .none kV doc pm an cdv ct ∧ K.lookup f = some ⟨oc, od, .func fd, osl⟩ ∧ PySem.W.codeIn K cdv qual = true
  kp : PySem.W.keepIn K (.ref f) = true
section
variable {P : Program} {w : World} {K : PySem.W.Frag} {mg : Str → Option Value} {base : Heap}
/-- THE RULE for a def: its body as a term of rules, and the reading of that term -/
theorem Fun.ok {x qual : Str} {st : Stmt} {f : Addr} {fd : FuncData} {N ps : List Str} {k : Nat} {sp : Sp} (F : Fun K x qual st f fd) (S : FnScope N ps (defScope st)) (len : ∀ vs H Q E, sp vs H Q E → vs.length = ps.length)
    (hbody : ∀ (cdv : Value) (A : Around) (outer : List Env) (s : Shared) (H : Hp) (vs : List V) (Q : VK) (E : XK), Room k (A.deeper (envOfC qual (defScope st) s.heap.objs.size f cdv)) → sp vs H Q E →
      ∃ t, PSs (cxOf CX0 P w K mg base N qual (defScope st) f cdv A outer s H E).nox (defBody st) t ∧ t { nx := fun _ H' => Q .non H', rt := Q } (start N vs) H) : FnOk P w K mg base CX0 (k + 1) f fd ps sp := by
  obtain ⟨oc, od, kV, doc, pm, an, cdv, ct, osl, rfl, lk, hcd⟩ := F.ex
  refine fn_of lk hcd S len fun A outer s H vs Q E hr hsp => ?_
  obtain ⟨t, h, q⟩ := hbody cdv A outer s H vs Q E hr hsp
  exact ⟨t, h.nox, q⟩
/-- how its arguments bind (no defaults): h is «fun _ _ _ _ _ _ us hl => match us, hl with | [_, _], _ => rfl», one _ a parameter -/
theorem Fun.binds {x qual : Str} {st : Stmt} {f : Addr} {fd : FuncData} {ps : List Str} (F : Fun K x qual st f fd)
    (h : ∀ (kV doc pm : Value) (an : Option Addr) (cdv ct : Value) (us : List Value), us.length = ps.length → bindArgs (PySem.W.fnOf x qual (defArgs st) (defBody st) (defScope st) .none kV doc pm an cdv ct) ⟨us, []⟩ = pure (ps.zip us)) : Binds K fd ps [] := by
  obtain ⟨oc, od, kV, doc, pm, an, cdv, ct, osl, rfl, lk, hcd⟩ := F.ex
  exact .all (h kV doc pm an cdv ct)
theorem fun_mk {x qual : Str} {st : Stmt} {f : Addr} {oc : Value} {od an : Option Addr} {osl : Array (Option Value)} {kV doc pm cdv ct : Value} (l : K.lookup f = some ⟨oc, od, .func (PySem.W.fnOf x qual (defArgs st) (defBody st) (defScope st) .none kV doc pm an cdv ct), osl⟩)
    (c : PySem.W.codeIn K cdv qual = true) (k : PySem.W.keepIn K (.ref f) = true) : Fun K x qual st f (PySem.W.fnOf x qual (defArgs st) (defBody st) (defScope st) .none kV doc pm an cdv ct) := ⟨⟨oc, od, kV, doc, pm, an, cdv, ct, osl, rfl, l, c⟩, k⟩
end
theorem hu_of {A : Around} {k : Nat} (hr : Room k A) : A.units + 1 < cLine := Nat.lt_of_le_of_lt (Nat.add_le_add_left (by decide : 1 ≤ 64) _) hr.units
theorem small1000 {n : Nat} (h : n ≤ 1000) : n < sizeLine := Nat.lt_of_le_of_lt h (by decide)

/-! ### expressions in short: the name that stands in the i-th slot -/
section
variable {X : Cx}
theorem pv (i : Nat) {x : Str} {pos : Pos} (hN : X.N[i]? = some x := by rfl) (hv : Vis X.env.scope x := by first | exact Or.inl rfl | exact Or.inr (Or.inl rfl) | exact Or.inr (Or.inr rfl)) (hd : (x == ("__debug__" : Str)) = false := by decide)
    (hcd : (x == ("__classdict__" : Str)) = false := by decide) : PE X (.Name x pos) (tVar i) := pe_var hN hv hd hcd
end

/-! ### tests -/
theorem iteF {A B : Prop} (h : B) : if false = true then A else B := by
  rw [if_neg Bool.false_ne_true]
  exact h
theorem iteT {A B : Prop} (h : A) : if true = true then A else B := by
  rw [if_pos rfl]
  exact h
theorem ite2 {c A B : Prop} [Decidable c] (h1 : c → A) (h2 : ¬ c → B) : if c then A else B := by
  by_cases h : c
  · rw [if_pos h]
    exact h1 h
  · rw [if_neg h]
    exact h2 h
theorem iteNS {c A B : Prop} [Decidable c] (hc : c) (h : B) : if (!decide c) = true then A else B := by
  rw [decide_eq_true hc]
  exact iteF h

/-! ### heaps -/
/-- all that was tracked is as it was -/
def Same (H H' : Hp) : Prop := ∀ b o, H b = some o → H' b = some o
theorem Same.refl (H : Hp) : Same H H := fun _ _ h => h
theorem Same.trans {H H1 H2 : Hp} (a : Same H H1) (b : Same H1 H2) : Same H H2 := fun c o h => b c o (a c o h)
theorem Same.free {H H' : Hp} (e : Same H H') {l : Addr} (h : H' l = Option.none) : H l = Option.none := by
  cases q : H l with
  | none => rfl
  | some o =>
    rw [e l o q] at h
    cases h
theorem Same.seq {K : PySem.W.Frag} {H H' : Hp} {a : Addr} {xs : List V} (e : Same H H') (h : SqL K H a xs) : SqL K H' a xs := by
  rcases h with (h | ⟨o, h⟩) | h
  · exact .inl (.inl (e _ _ h))
  · exact .inl (.inr ⟨o, e _ _ h⟩)
  · exact .inr h

end L2

set_option Elab.async false
set_option linter.all false
set_option maxRecDepth 100000
set_option maxHeartbeats 4000000
namespace L2
open PySem PySem.Spec PyProof.Rows

/-! ### great ints -/
abbrev GL : Int := 100000000000000000000000000000000000000000000000000000000000000000000000000000000000000000000000000000000000000000000000000000000000000000000000000000000000000000000000000000000000000000000000000000000
theorem bits_GL {k : Int} (h1 : -GL < k) (h2 : k < GL) : Builtin.Int.intBits k ≤ 1000 := by
  unfold Builtin.Int.intBits
  split
  · exact Nat.zero_le _
  · have hn : k.natAbs < 100000000000000000000000000000000000000000000000000000000000000000000000000000000000000000000000000000000000000000000000000000000000000000000000000000000000000000000000000000000000000000000000000000000 := by
      unfold GL at h1 h2; omega
    have hp : (100000000000000000000000000000000000000000000000000000000000000000000000000000000000000000000000000000000000000000000000000000000000000000000000000000000000000000000000000000000000000000000000000000000 : Nat) ≤ 2 ^ 999 := by decide +kernel
    have : k.natAbs.log2 < 999 := by
      rcases Nat.eq_zero_or_pos k.natAbs with h0 | hp'
      · rw [h0]; decide
      · exact (Nat.log2_lt (Nat.ne_of_gt hp')).mpr (Nat.lt_of_lt_of_le hn hp)
    omega
def CMulB (i j : Int) : Prop := (-GL < i ∧ i < GL) ∧ (-GL < j ∧ j < GL)
theorem CMulB.ok {i j : Int} (h : CMulB i j) : IntMulOk i j := PySem.IntMulOk.of_le (bits_GL h.1.1 h.1.2) (bits_GL h.2.1 h.2.2) (by decide)
def CMulA (i j : Int) : Prop := CMul i j ∨ CMulB i j
def CDivB (i j : Int) : Prop := 0 < j ∧ j < GL
def CDivS (i j : Int) : Prop := j ≠ 0 ∧ -GL < j ∧ j < GL
theorem noPy {i j : Int} (h1 : -GL < j) (h2 : j < GL) : Builtin.divisionGoesByPylong i j = false := by
  refine PyProof.noPylong_of_log2 ?_
  have hn : j.natAbs < 100000000000000000000000000000000000000000000000000000000000000000000000000000000000000000000000000000000000000000000000000000000000000000000000000000000000000000000000000000000000000000000000000000000 := by
    unfold GL at h1 h2; omega
  have hp : (100000000000000000000000000000000000000000000000000000000000000000000000000000000000000000000000000000000000000000000000000000000000000000000000000000000000000000000000000000000000000000000000000000000 : Nat) ≤ 2 ^ 999 := by decide +kernel
  have : j.natAbs.log2 < 999 := by
    rcases Nat.eq_zero_or_pos j.natAbs with h0 | hp'
    · rw [h0]; decide
    · exact (Nat.log2_lt (Nat.ne_of_gt hp')).mpr (Nat.lt_of_lt_of_le hn hp)
  omega
section
variable {X : Cx} {a b : Expr} {ta tb : TE} {pos : Pos}
theorem op_mulA : OpR X (binaryOp .Mult) (rI CMulA fun i j => .int (i * j)) := opI fun _ _ _ _ _ _ _ hc q => mul_int q (hc.elim CMul.ok CMulB.ok)
theorem op_fdivB : OpR X (binaryOp .FloorDiv) (rI CDivB fun i j => .int (i / j)) := opI fun i j _ _ _ _ _ hc q => by
  have h1 : (0 : Int) < j := hc.1
  have h2 := hc.2
  exact floordiv_int (by omega) (by rw [Int.fdiv_eq_ediv_of_nonneg i (by omega)]; exact q) (.inl (noPy (by unfold GL; omega) h2))
theorem op_fdivS : OpR X (binaryOp .FloorDiv) (rI CDivS fun i j => .int (i.fdiv j)) := opI fun _ _ _ _ _ _ _ hc q => floordiv_int hc.1 q (.inl (noPy hc.2.1 hc.2.2))
/-- a written power -/
theorem pe_powK {i j k : Int} {n1 n2 : Nat} {p1 p2 : Pos} (hc : CPow i j) (e : i ^ j.toNat = k) : PE X (.BinOp (.Constant (.int i) n1 p1) .Pow (.Constant (.int j) n2 p2) pos) (tC (.int k)) := by
  intro pins s σ H Q I h
  refine pe_op op_pow pe_int pe_int pins s σ H Q I ⟨i, j, rfl, rfl, hc, ?_⟩
  show Q (.int (i ^ j.toNat)) H
  rw [e]; exact h

/-! ### isinstance -/
def clsV : V → Value
  | .ty T => .type T
  | .ref C => .ref C
  | _ => .none
def rIsi (K : PySem.W.Frag) : List V → Hp → VK → Prop := fun xs H Q => ∃ x c t b, xs = [x, c] ∧ TyOf K H x t ∧ (∃ T, c = .ty T ∨ ∃ C, c = .ref C) ∧ PySem.W.kitOne K t (clsV c) = some b ∧ Q (.bl b) H
theorem call_isi : CallR X (.builtin "isinstance") (rIsi X.K) := by
  intro pins s σ H xs us Q I r h
  obtain ⟨x, c, t, b, rfl, ty, hc, e, q⟩ := h
  obtain ⟨v, w, rfl, rx, rw'⟩ := vals2 r
  have : w = clsV c := by
    obtain ⟨T, rfl | ⟨C, rfl⟩⟩ := hc
    · exact rw'
    · exact rw'
  subst this
  exact isinst_ok I rx ty e fun tk => ⟨.bl b, H, I.tok _, rfl, q⟩

/-! ### == of two tuples of flat items -/
def eqVs (xs ys : List V) : Bool := (List.range (min xs.length ys.length)).all (fun j => eqV (xs.getD j .non) (ys.getD j .non)) && xs.length == ys.length
theorem Vals.getD : ∀ {xs : List V} {us : List Value} (j : Nat) (h : j < us.length), Vals xs us → RelV (xs.getD j .non) us[j]
  | _, _, j, h, .nil => absurd h (Nat.not_lt_zero _)
  | _, _, 0, _, .cons r _ => r
  | _, _, j + 1, h, .cons _ t => Vals.getD j (Nat.lt_of_succ_lt_succ h) t
theorem flat_getD : ∀ {xs : List V} (j : Nat), xs.all flatV = true → flatV (xs.getD j .non) = true
  | [], j, _ => by simp [flatV]
  | x :: xs, 0, h => by rw [List.all_cons, Bool.and_eq_true] at h; exact h.1
  | x :: xs, j + 1, h => by rw [List.all_cons, Bool.and_eq_true] at h; simpa using flat_getD (xs := xs) j h.2
def rEqT (K : PySem.W.Frag) : R2 := fun x y H Q => ∃ p q xs ys, x = .ref p ∧ y = .ref q ∧ SqT K H p xs ∧ SqT K H q ys ∧ xs.all flatV = true ∧ ys.all flatV = true ∧ Q (.bl (eqVs xs ys)) H
theorem op_eqT (hu : X.A.units < cLine) : OpR X (compareOp .Eq) (rEqT X.K) := by
  intro pins s σ H x y v u Q I rx ry h
  obtain ⟨p, q, xs, ys, rfl, rfl, hx, hy, fx, fy, k⟩ := h
  cases rx; cases ry
  obtain ⟨its, r, pl, hz⟩ := I.tuple hx
  obtain ⟨its2, r2, pl2, hz2⟩ := I.tuple hy
  refine SeqAt.eq_tupleAt (e := fun j => eqV (xs.getD j .non) (ys.getD j .non)) pl pl2 hu (fun j h1 h2 => ?_) ⟨.bl _, H, I, rfl, ?_⟩
  · exact eqAt_V (by simpa using Vals.getD j (by simpa using h1) r) (by simpa using Vals.getD j (by simpa using h2) r2) (flat_getD j fx) (flat_getD j fy)
  · have e1 : its.toArray.size = xs.length := by simp [r.length]
    have e2 : its2.toArray.size = ys.length := by simp [r2.length]
    rw [e1, e2]
    exact k
theorem eqVs_pair (a b c d : Int) : eqVs [.int a, .int b] [.int c, .int d] = (decide (a = c) && decide (b = d)) := by
  unfold eqVs
  simp [List.range, List.range.loop, eqV]
  rw [Bool.eq_iff_iff]
  simp [and_comm]
end
end L2

set_option Elab.async false
set_option linter.all false
set_option maxRecDepth 100000
set_option maxHeartbeats 4000000
namespace L2
open PySem PySem.Spec PyProof.Rows

/-! ### a callee by its name -/
def Has (P : Program) (w : World) (K : PySem.W.Frag) (mg : Str → Option Value) (base : Heap) (x : Str) (k : Nat) (ps : List Str) (sp : Sp) : Prop :=
  ∃ (f : Addr) (fd : FuncData), FnOk P w K mg base CX0 k f fd ps sp ∧ mg x = some (.ref f) ∧ PySem.W.keepIn K (.ref f) = true ∧ Binds K fd ps []
theorem pe_callH {X : Cx} {x : Str} {k n : Nat} {ps : List Str} {sp : Sp} {p pos : Pos} {e : Expr} {es : List Expr} {t : TA} (F : Has X.prog X.w X.K X.mg X.base x k ps sp) (hr : Room n X.A) (hg : Gl X x) (ha : PA X (e :: es) t) (hk : k ≤ n := by decide)
    (hdb : (x == ("__debug__" : Str)) = false := by decide) (he : starEach (e :: es) X.env = (false, eval e X.env) :: starEach es X.env := by rfl) (hpl : (backTo pos (starEach es X.env)).any (·.1) = false := by rfl) :
    PE X (.Call (.Name x p) (e :: es) [] pos) (tCall sp [] E0 t) := by
  obtain ⟨f, fd, G, hm, kp, hb⟩ := F
  exact pe_call G (hr.mono hk) hg hm kp hb .nil pass0 ha hdb he hpl
theorem pe_callBH {X : Cx} {x : Str} {id : String} {p pos : Pos} {e : Expr} {es : List Expr} {t : TA} {r : List V → Hp → VK → Prop} (hc : CallR X (.builtin id) r) (hm : X.mg x = none) (hg : Gl X x) (hv : bootBuiltins x = some (.builtin id)) (ha : PA X (e :: es) t) (hn : x ≠ "__name__" := by decide) (hdb : (x == ("__debug__" : Str)) = false := by decide)
    (he : starEach (e :: es) X.env = (false, eval e X.env) :: starEach es X.env := by rfl) (hpl : (backTo pos (starEach es X.env)).any (·.1) = false := by rfl) : PE X (.Call (.Name x p) (e :: es) [] pos) (tCB r t) :=
  pe_callB hc hg hm hv ha hn hdb he hpl

/-! ### heaps -/
theorem same_new {H : Hp} {p : Addr} (h : H p = none) (o : HO) : Same H (upd H p o) := fun b u q => by rw [upd_ne (ne_of_none q h)]; exact q
theorem Same.at {H H' : Hp} (g : Same H H') {b : Addr} {o : HO} (h : H b = some o) : H' b = some o := g b o h
theorem small {n : Nat} (h : n ≤ 1000) : n ≤ sizeLine := Nat.le_of_lt (small1000 h)

/-! ### readings, by their heads -/
section
variable {σ : St} {H : Hp} {Q : VK} {D : Ends} {K : PySem.W.Frag}
theorem r_var {i : Nat} {v : V} (e : σ[i]? = some (some v)) (h : Q v H) : tVar i σ H Q := ⟨v, e, h⟩
theorem r_c {v : V} (h : Q v H) : tC v σ H Q := h
theorem r_op {r : R2} {ta tb : TE} (h : ta σ H fun x H1 => tb σ H1 fun y H2 => r x y H2 Q) : tOp r ta tb σ H Q := h
theorem r_un {r : V → Hp → VK → Prop} {ta : TE} (h : ta σ H fun x H1 => r x H1 Q) : tUn r ta σ H Q := h
theorem r_I {C : Int → Int → Prop} {g : Int → Int → V} {i j : Int} (hc : C i j) (h : Q (g i j) H) : rI C g (.int i) (.int j) H Q := ⟨i, j, rfl, rfl, hc, h⟩
theorem r_I0 {g : Int → Int → V} {i j : Int} (h : Q (g i j) H) : rI0 g (.int i) (.int j) H Q := ⟨i, j, rfl, rfl, h⟩
theorem r_U {g : Int → V} {i : Int} (h : Q (g i) H) : rU g (.int i) H Q := ⟨i, rfl, h⟩
theorem r_eqI {i j : Int} (h : Q (.bl (decide (i = j))) H) : rEq (.int i) (.int j) H Q := ⟨rfl, by rw [show decide (V.int i = V.int j) = decide (i = j) by by_cases e : i = j <;> simp [e]]; exact h⟩
theorem r_neI {i j : Int} (h : Q (.bl (!decide (i = j))) H) : rNe (.int i) (.int j) H Q := ⟨rfl, by rw [show decide (V.int i = V.int j) = decide (i = j) by by_cases e : i = j <;> simp [e]]; exact h⟩
theorem r_eqB {i j : Bool} (h : Q (.bl (i == j)) H) : rEq (.bl i) (.bl j) H Q := ⟨rfl, by rw [dec_bl]; exact h⟩
theorem r_eqS {x y : Str} {b : Bool} (e : decide (x = y) = b) (h : Q (.bl b) H) : rEq (.str x) (.str y) H Q := ⟨rfl, by rw [show decide (V.str x = V.str y) = decide (x = y) by by_cases e : x = y <;> simp [e], e]; exact h⟩
theorem r_eq {x y : V} (hs : scal x y = true) (h : Q (.bl (decide (x = y))) H) : rEq x y H Q := ⟨hs, h⟩
theorem r_ne {x y : V} (hs : scal x y = true) (h : Q (.bl (!decide (x = y))) H) : rNe x y H Q := ⟨hs, h⟩
theorem r_or1 {r r' : R2} {x y : V} (h : r x y H Q) : (fun x y H Q => r x y H Q ∨ r' x y H Q) x y H Q := .inl h
theorem r_test {t : TE} {R : Bool → Hp → Prop} (h : t σ H fun x H' => ∃ k, x = .bl k ∧ R k H') : tTest t σ H R := h
theorem r_tB {t : TE} {R : Bool → Hp → Prop} (h : t σ H fun x H' => ∃ k, x = .bl k ∧ R k H') : tB t σ H R := h
theorem r_exbl {b : Bool} {R : Bool → Prop} (h : R b) : ∃ k, V.bl b = .bl k ∧ R k := ⟨b, rfl, h⟩
theorem r_and {t u : TT} {R : Bool → Hp → Prop} (h : t σ H fun c H1 => if c = true then u σ H1 R else R false H1) : tAnd t u σ H R := h
theorem r_or {t u : TT} {R : Bool → Hp → Prop} (h : t σ H fun c H1 => if c = true then R true H1 else u σ H1 R) : tOr t u σ H R := h
theorem r_not {t : TT} {R : Bool → Hp → Prop} (h : t σ H fun c H1 => R (!c) H1) : tNot t σ H R := h
theorem r_andV {ta tb : TE} (h : ta σ H fun x H1 => ∃ c, x = .bl c ∧ if c = true then tb σ H1 Q else Q (.bl false) H1) : tAndV ta tb σ H Q := h
theorem r_orV {ta tb : TE} (h : ta σ H fun x H1 => ∃ c, x = .bl c ∧ if c = true then Q (.bl true) H1 else tb σ H1 Q) : tOrV ta tb σ H Q := h
theorem r_notV {ta : TE} (h : ta σ H fun x H1 => ∃ c, x = .bl c ∧ Q (.bl (!c)) H1) : tNotV ta σ H Q := h
theorem r_ifE {t : TT} {ta tb : TE} (h : t σ H fun c H1 => if c = true then ta σ H1 Q else tb σ H1 Q) : tIf t ta tb σ H Q := h
theorem r_chain {r r' : R2} {ta tb tc : TE} (h : ta σ H fun x H1 => tb σ H1 fun y H2 => r x y H2 fun z H3 => ∃ k, z = .bl k ∧ (if k = true then tc σ H3 fun w' H4 => r' y w' H4 Q else Q (.bl false) H3)) : tChain r r' ta tb tc σ H Q := h
theorem r_seq {t u : TS} (h : t { D with nx := u D } σ H) : tSeq t u D σ H := h
theorem r_next (h : D.nx σ H) : tNext D σ H := h
theorem r_asg {te : TE} {g : TG} (h : te σ H fun x H1 => g x σ H1 D.nx) : tAsg te g D σ H := h
theorem r_name {i : Nat} {v : V} {R : St → Hp → Prop} (h : R (σ.set i (some v)) H) : gName i v σ H R := h
theorem r_ret {te : TE} (h : te σ H D.rt) : tRet te D σ H := h
theorem r_retN (h : D.rt .non H) : tRetN D σ H := h
theorem r_drop {te : TE} (h : te σ H fun _ H1 => D.nx σ H1) : tDrop te D σ H := h
theorem r_ifS {c : TT} {t u : TS} (h : c σ H fun b H1 => if b = true then t D σ H1 else u D σ H1) : tIfS c t u D σ H := h
theorem r_nil {R : List V → Hp → Prop} (h : R [] H) : tNil σ H R := h
theorem r_cons {ta : TE} {tr : TA} {R : List V → Hp → Prop} (h : ta σ H fun x H1 => tr σ H1 fun xs H2 => R (x :: xs) H2) : tCons ta tr σ H R := h
theorem r_call {sp : Sp} {dvs : List V} {E : XK} {t : TA} (h : t σ H fun vs H1 => sp (vs ++ dvs) H1 Q E) : tCall sp dvs E t σ H Q := h
theorem r_cb {r : List V → Hp → VK → Prop} {t : TA} (h : t σ H fun vs H1 => r vs H1 Q) : tCB r t σ H Q := h
/-- a new tuple, a new list -/
def kTup (Q : VK) (xs : List V) (H : Hp) : Prop := xs.length ≤ sizeLine ∧ ∀ p, H p = none → Q (.ref p) (upd H p (.tup xs))
def kLst (Q : VK) (xs : List V) (H : Hp) : Prop := xs.length ≤ sizeLine ∧ ∀ p, H p = none → Q (.ref p) (upd H p (.lst xs))
theorem r_tup {t : TA} (h : t σ H (kTup Q)) : tTup t σ H Q := h
theorem r_lst {t : TA} (h : t σ H (kLst Q)) : tLst t σ H Q := h
theorem r_kTup {xs : List V} (hz : xs.length ≤ sizeLine) (h : ∀ p H', Same H H' → H' p = some (.tup xs) → Q (.ref p) H') : kTup Q xs H := ⟨hz, fun p hp => h p _ (same_new hp _) upd_same⟩
theorem r_kLst {xs : List V} (hz : xs.length ≤ sizeLine) (h : ∀ p H', Same H H' → H' p = some (.lst xs) → Q (.ref p) H') : kLst Q xs H := ⟨hz, fun p hp => h p _ (same_new hp _) upd_same⟩
theorem r_ixT {p : Addr} {xs : List V} {i : Int} {v : V} (h : H p = some (.tup xs)) (e : atI xs i = some v) (q : Q v H) : rIxT K (.ref p) (.int i) H Q := ⟨p, xs, i, v, rfl, rfl, SqT.of h, e, q⟩
theorem r_ixL {p : Addr} {xs : List V} {i : Int} {v : V} (h : SqL K H p xs) (e : atI xs i = some v) (q : Q v H) : rIxL K (.ref p) (.int i) H Q := ⟨p, xs, i, v, rfl, rfl, h, e, q⟩
theorem r_isi {x c : V} {t : Value} {b : Bool} (ty : TyOf K H x t) (hc : ∃ T, c = .ty T ∨ ∃ C, c = .ref C) (e : PySem.W.kitOne K t (clsV c) = some b) (q : Q (.bl b) H) : rIsi K [x, c] H Q := ⟨x, c, t, b, rfl, ty, hc, e, q⟩
theorem r_eqT {p q : Addr} {xs ys : List V} (h1 : H p = some (.tup xs)) (h2 : H q = some (.tup ys)) (f1 : xs.all flatV = true) (f2 : ys.all flatV = true) (k : Q (.bl (eqVs xs ys)) H) : rEqT K (.ref p) (.ref q) H Q := ⟨p, q, xs, ys, rfl, rfl, SqT.of h1, SqT.of h2, f1, f2, k⟩
end
def CPos (_ j : Int) : Prop := 0 < j
def CNn (_ j : Int) : Prop := 0 ≤ j
def CNz (_ j : Int) : Prop := j ≠ 0
theorem op_modP {X : Cx} : OpR X (binaryOp .Mod) (rI CPos fun i j => .int (i % j)) := op_mod
theorem op_modZ {X : Cx} : OpR X (binaryOp .Mod) (rI CNz fun i j => .int (i.fmod j)) := op_modN
theorem op_shrP {X : Cx} : OpR X (binaryOp .RShift) (rI CNn fun i j => .int (i / 2 ^ j.toNat)) := op_shr
section
variable {σ : St} {H : Hp} {Q : VK} {D : Ends} {K : PySem.W.Frag}
theorem r_par {i j : Nat} {ta : TA} (h : ta σ H fun vs H1 => ∃ v w, vs = [v, w] ∧ D.nx ((σ.set i (some v)).set j (some w)) H1) : tPar i j ta D σ H := h
theorem r_two {v w : V} {R : V → V → Prop} (h : R v w) : ∃ v' w', [v, w] = [v', w'] ∧ R v' w' := ⟨v, w, rfl, h⟩
theorem r_exN {W : Nat → St → Hp → Prop} {m : Nat} {tb : TS} (h : tb { D with nx := fun σ' H' => ∃ m', m' < m ∧ W m' σ' H', ct := fun σ' H' => ∃ m', m' < m ∧ W m' σ' H', bk := D.nx } σ H) :
    ∃ N : St → Hp → Prop, (∀ σ' H', N σ' H' → ∃ m', m' < m ∧ W m' σ' H') ∧ tb { D with nx := N, ct := N, bk := D.nx } σ H := ⟨_, fun _ _ h => h, h⟩
theorem r_while {c : TT} {tb : TS} (W : Nat → St → Hp → Prop) (h0 : ∃ m, W m σ H) (hs : ∀ m σ H, W m σ H → c σ H fun b H1 => if b = true then ∃ N : St → Hp → Prop, (∀ σ' H', N σ' H' → ∃ m', m' < m ∧ W m' σ' H') ∧ tb { D with nx := N, ct := N, bk := D.nx } σ H1 else D.nx σ H1) : tWhile c tb D σ H := ⟨W, h0, hs⟩
theorem r_abs {i : Int} (h : Q (.int (if i < 0 then -i else i)) H) : (fun xs H Q => ∃ i, xs = [V.int i] ∧ Q (V.int (if i < 0 then -i else i)) H : List V → Hp → VK → Prop) [.int i] H Q := ⟨i, rfl, h⟩
/-- a for over a list -/
def kForL (K : PySem.W.Frag) (g : TG) (tb : TS) (D : Ends) (σ : St) (x : V) (H : Hp) : Prop := ∃ a, x = .ref a ∧ (∃ xs, SqL K H a xs) ∧ ∃ W : Nat → Nat → St → Hp → Prop, (∃ m, W 0 m σ H) ∧ ∀ i m σ H, W i m σ H →
  ((Itl K a).stop i H ∧ D.nx σ H) ∨ ((Itl K a).go i H ∧ ∃ N : St → Hp → Prop, (∀ σ' H', N σ' H' → ∃ m', m' < m ∧ W (i + 1) m' σ' H') ∧ ∀ x H', (Itl K a).yld i H x H' → g x σ H' fun σ2 H2 => tb { D with nx := N, ct := N, bk := D.nx } σ2 H2)
theorem r_forL {tl : TE} {g : TG} {tb : TS} (h : tl σ H (kForL K g tb D σ)) : tFor (iList K tl) g tb D σ H := h
theorem r_kForL {g : TG} {tb : TS} {a : Addr} {xs : List V} (hx : SqL K H a xs) (Pv : Nat → St → Hp → Prop) (h0 : Pv 0 σ H) (hl : ∀ i σ H, i ≤ xs.length → Pv i σ H → SqL K H a xs)
    (hs : ∀ i x σ H, xs[i]? = some x → Pv i σ H → g x σ H fun σ2 H2 => tb { D with nx := Pv (i + 1), ct := Pv (i + 1), bk := D.nx } σ2 H2) (hd : ∀ σ H, Pv xs.length σ H → D.nx σ H) : kForL K g tb D σ (.ref a) H := ⟨a, rfl, ⟨xs, hx⟩, for_list Pv h0 hl hs hd⟩
/-- a for over a range from 0 on -/
def kForR (g : TG) (tb : TS) (D : Ends) (σ : St) (vs : List V) (H : Hp) : Prop := ∃ j : Int, vs = [.int j] ∧ -(2 ^ 62) ≤ j ∧ j < 2 ^ 62 ∧ ∃ W : Nat → Nat → St → Hp → Prop, (∃ m, W 0 m σ H) ∧ ∀ i m σ H, W i m σ H →
  ((Itr 0 j.toNat).stop i H ∧ D.nx σ H) ∨ ((Itr 0 j.toNat).go i H ∧ ∃ N : St → Hp → Prop, (∀ σ' H', N σ' H' → ∃ m', m' < m ∧ W (i + 1) m' σ' H') ∧ ∀ x H', (Itr 0 j.toNat).yld i H x H' → g x σ H' fun σ2 H2 => tb { D with nx := N, ct := N, bk := D.nx } σ2 H2)
theorem r_forR {ta : TA} {g : TG} {tb : TS} (h : ta σ H (kForR g tb D σ)) : tFor (iRng1 ta) g tb D σ H := h
theorem r_kForR {g : TG} {tb : TS} {j : Int} (h1 : -(2 ^ 62) ≤ j) (h2 : j < 2 ^ 62) (Pv : Nat → St → Hp → Prop) (h0 : Pv 0 σ H)
    (hs : ∀ i σ H, i < j.toNat → Pv i σ H → g (.int (0 + i)) σ H fun σ2 H2 => tb { D with nx := Pv (i + 1), ct := Pv (i + 1), bk := D.nx } σ2 H2) (hd : ∀ σ H, Pv j.toNat σ H → D.nx σ H) : kForR g tb D σ [.int j] H := ⟨j, rfl, h1, h2, for_range Pv h0 hs hd⟩
theorem r_gTup {n : Nat} {t : TGs} {a : Addr} {xs : List V} {R : St → Hp → Prop} (h : H a = some (.tup xs)) (hn : xs.length = n) (k : t xs σ H R) : gTup K n t (.ref a) σ H R := ⟨a, xs, rfl, SqT.of h, hn, k⟩
theorem r_gCons {t : TG} {u : TGs} {v : V} {r : List V} {R : St → Hp → Prop} (h : t v σ H fun σ' H' => u r σ' H' R) : gCons t u (v :: r) σ H R := ⟨v, r, rfl, h⟩
theorem r_gNil {R : St → Hp → Prop} (h : R σ H) : gNil [] σ H R := ⟨rfl, h⟩
end
theorem hu_lt {A : Around} {k : Nat} (hr : Room k A) : A.units < cLine := Nat.lt_of_succ_lt (hu_of hr)
theorem r_ix2 {H : Hp} {Q : VK} {K : PySem.W.Frag} {p : Addr} {a b : V} {i : Int} (h : H p = some (.lst [a, b])) (hi : i = 0 ∨ i = 1) (q0 : i = 0 → Q a H) (q1 : i = 1 → Q b H) : rIxL K (.ref p) (.int i) H Q := by
  rcases hi with rfl | rfl
  · exact r_ixL (SqL.of h) rfl (q0 rfl)
  · exact r_ixL (SqL.of h) rfl (q1 rfl)
def rAbs : List V → Hp → VK → Prop := fun xs H Q => ∃ i, xs = [.int i] ∧ Q (.int (if i < 0 then -i else i)) H
def rMax2 : List V → Hp → VK → Prop := fun xs H Q => ∃ i j, xs = [.int i, .int j] ∧ Q (.int (if j > i then j else i)) H
def rMin2 : List V → Hp → VK → Prop := fun xs H Q => ∃ i j, xs = [.int i, .int j] ∧ Q (.int (if j < i then j else i)) H
def rInt1 : List V → Hp → VK → Prop := fun xs H Q => (∃ i, xs = [.int i] ∧ Q (.int i) H) ∨ ∃ k, xs = [.bl k] ∧ Q (.int (if k then 1 else 0)) H
def rLenS (K : PySem.W.Frag) : List V → Hp → VK → Prop := fun xs H Q => ∃ p ys, xs = [.ref p] ∧ (SqL K H p ys ∨ SqT K H p ys) ∧ Q (.int ys.length) H
section
variable {X : Cx} {H : Hp} {Q : VK} {K : PySem.W.Frag}
theorem call_absN : CallR X (.builtin "abs") rAbs := call_abs
theorem call_max2N (hc : X.calm = true) : CallR X (.builtin "max") rMax2 := call_max2 hc
theorem call_min2N (hc : X.calm = true) : CallR X (.builtin "min") rMin2 := call_min2 hc
theorem call_int1N : CallR X (.type "int") rInt1 := call_int1
theorem call_lenN : CallR X (.builtin "len") (rLenS X.K) := call_len_seq
theorem r_absN {i : Int} (h : Q (.int (if i < 0 then -i else i)) H) : rAbs [.int i] H Q := ⟨i, rfl, h⟩
theorem r_max2 {i j : Int} (h : Q (.int (if j > i then j else i)) H) : rMax2 [.int i, .int j] H Q := ⟨i, j, rfl, h⟩
theorem r_min2 {i j : Int} (h : Q (.int (if j < i then j else i)) H) : rMin2 [.int i, .int j] H Q := ⟨i, j, rfl, h⟩
theorem r_absA {i : Int} (h : ∀ k : Int, (0 ≤ i ∧ k = i) ∨ (i < 0 ∧ k = -i) → Q (.int k) H) : rAbs [.int i] H Q := ⟨i, rfl, h _ (by split <;> omega)⟩
theorem r_max2A {i j : Int} (h : ∀ k : Int, (i < j ∧ k = j) ∨ (j ≤ i ∧ k = i) → Q (.int k) H) : rMax2 [.int i, .int j] H Q := ⟨i, j, rfl, h _ (by split <;> omega)⟩
theorem r_min2A {i j : Int} (h : ∀ k : Int, (j < i ∧ k = j) ∨ (i ≤ j ∧ k = i) → Q (.int k) H) : rMin2 [.int i, .int j] H Q := ⟨i, j, rfl, h _ (by split <;> omega)⟩
theorem r_lenT2 {p : Addr} {a b : V} (h : H p = some (.tup [a, b])) (q : Q (.int 2) H) : rLenS K [.ref p] H Q := ⟨p, [a, b], rfl, .inr (SqT.of h), q⟩
theorem r_int1i {i : Int} (h : Q (.int i) H) : rInt1 [.int i] H Q := .inl ⟨i, rfl, h⟩
theorem r_int1b {k : Bool} (h : Q (.int (if k then 1 else 0)) H) : rInt1 [.bl k] H Q := .inr ⟨k, rfl, h⟩
theorem r_lenL {p : Addr} {ys : List V} (h : SqL K H p ys) (q : Q (.int ys.length) H) : rLenS K [.ref p] H Q := ⟨p, ys, rfl, .inl h, q⟩
theorem r_lenT {p : Addr} {ys : List V} (h : H p = some (.tup ys)) (q : Q (.int ys.length) H) : rLenS K [.ref p] H Q := ⟨p, ys, rfl, .inr (SqT.of h), q⟩
end
theorem bo_int : bootBuiltins "int" = some (.type "int") := by decide +kernel
theorem bo_bool : bootBuiltins "bool" = some (.type "bool") := by decide +kernel
theorem bo_tuple : bootBuiltins "tuple" = some (.type "tuple") := by decide +kernel
theorem bo_str : bootBuiltins "str" = some (.type "str") := by decide +kernel
theorem bo_list : bootBuiltins "list" = some (.type "list") := by decide +kernel
theorem bo_dict : bootBuiltins "dict" = some (.type "dict") := by decide +kernel
theorem bo_isinstance : bootBuiltins "isinstance" = some (.builtin "isinstance") := by decide +kernel
theorem bo_abs : bootBuiltins "abs" = some (.builtin "abs") := by decide +kernel
theorem bo_max : bootBuiltins "max" = some (.builtin "max") := by decide +kernel
theorem bo_min : bootBuiltins "min" = some (.builtin "min") := by decide +kernel
theorem bo_len : bootBuiltins "len" = some (.builtin "len") := by decide +kernel
/-! ### isinstance against built-in types -/
def kitC (T T' : String) : Option Bool := if (Value.type T == Value.type T') = true then some true else if PySem.W.kitMeta T' = true then (fastBuiltinMro T).map (·.contains (Value.type T')) else none
theorem kit_ty (K : PySem.W.Frag) (T T' : String) {b : Bool} (h : kitC T T' = some b) : PySem.W.kitOne K (.type T) (.type T') = some b := h
theorem kit_int_int (K : PySem.W.Frag) : PySem.W.kitOne K (.type "int") (.type "int") = some true := kit_ty K _ _ (by decide +kernel)
theorem kit_int_bool (K : PySem.W.Frag) : PySem.W.kitOne K (.type "int") (.type "bool") = some false := kit_ty K _ _ (by decide +kernel)
theorem kit_bool_bool (K : PySem.W.Frag) : PySem.W.kitOne K (.type "bool") (.type "bool") = some true := kit_ty K _ _ (by decide +kernel)
theorem kit_bool_int (K : PySem.W.Frag) : PySem.W.kitOne K (.type "bool") (.type "int") = some true := kit_ty K _ _ (by decide +kernel)
theorem kit_tuple_tuple (K : PySem.W.Frag) : PySem.W.kitOne K (.type "tuple") (.type "tuple") = some true := kit_ty K _ _ (by decide +kernel)
theorem kit_int_tuple (K : PySem.W.Frag) : PySem.W.kitOne K (.type "int") (.type "tuple") = some false := kit_ty K _ _ (by decide +kernel)
theorem kit_bool_tuple (K : PySem.W.Frag) : PySem.W.kitOne K (.type "bool") (.type "tuple") = some false := kit_ty K _ _ (by decide +kernel)
theorem kit_str_int (K : PySem.W.Frag) : PySem.W.kitOne K (.type "str") (.type "int") = some false := kit_ty K _ _ (by decide +kernel)
theorem kit_str_bool (K : PySem.W.Frag) : PySem.W.kitOne K (.type "str") (.type "bool") = some false := kit_ty K _ _ (by decide +kernel)
theorem kit_str_str (K : PySem.W.Frag) : PySem.W.kitOne K (.type "str") (.type "str") = some true := kit_ty K _ _ (by decide +kernel)
theorem kit_str_tuple (K : PySem.W.Frag) : PySem.W.kitOne K (.type "str") (.type "tuple") = some false := kit_ty K _ _ (by decide +kernel)
theorem kit_int_str (K : PySem.W.Frag) : PySem.W.kitOne K (.type "int") (.type "str") = some false := kit_ty K _ _ (by decide +kernel)
theorem kit_list_list (K : PySem.W.Frag) : PySem.W.kitOne K (.type "list") (.type "list") = some true := kit_ty K _ _ (by decide +kernel)
theorem kit_list_tuple (K : PySem.W.Frag) : PySem.W.kitOne K (.type "list") (.type "tuple") = some false := kit_ty K _ _ (by decide +kernel)
theorem kit_list_int (K : PySem.W.Frag) : PySem.W.kitOne K (.type "list") (.type "int") = some false := kit_ty K _ _ (by decide +kernel)
theorem kit_tuple_int (K : PySem.W.Frag) : PySem.W.kitOne K (.type "tuple") (.type "int") = some false := kit_ty K _ _ (by decide +kernel)
theorem kit_tuple_bool (K : PySem.W.Frag) : PySem.W.kitOne K (.type "tuple") (.type "bool") = some false := kit_ty K _ _ (by decide +kernel)
theorem kit_list_bool (K : PySem.W.Frag) : PySem.W.kitOne K (.type "list") (.type "bool") = some false := kit_ty K _ _ (by decide +kernel)
theorem kit_NoneType_int (K : PySem.W.Frag) : PySem.W.kitOne K (.type "NoneType") (.type "int") = some false := kit_ty K _ _ (by decide +kernel)
theorem kit_NoneType_tuple (K : PySem.W.Frag) : PySem.W.kitOne K (.type "NoneType") (.type "tuple") = some false := kit_ty K _ _ (by decide +kernel)
theorem kit_NoneType_bool (K : PySem.W.Frag) : PySem.W.kitOne K (.type "NoneType") (.type "bool") = some false := kit_ty K _ _ (by decide +kernel)
theorem kit_dict_int (K : PySem.W.Frag) : PySem.W.kitOne K (.type "dict") (.type "int") = some false := kit_ty K _ _ (by decide +kernel)
theorem kit_dict_tuple (K : PySem.W.Frag) : PySem.W.kitOne K (.type "dict") (.type "tuple") = some false := kit_ty K _ _ (by decide +kernel)
theorem kit_tuple_list (K : PySem.W.Frag) : PySem.W.kitOne K (.type "tuple") (.type "list") = some false := kit_ty K _ _ (by decide +kernel)
theorem kit_NoneType_str (K : PySem.W.Frag) : PySem.W.kitOne K (.type "NoneType") (.type "str") = some false := kit_ty K _ _ (by decide +kernel)
theorem kit_int_list (K : PySem.W.Frag) : PySem.W.kitOne K (.type "int") (.type "list") = some false := kit_ty K _ _ (by decide +kernel)
theorem kit_list_str (K : PySem.W.Frag) : PySem.W.kitOne K (.type "list") (.type "str") = some false := kit_ty K _ _ (by decide +kernel)
theorem kit_tuple_str (K : PySem.W.Frag) : PySem.W.kitOne K (.type "tuple") (.type "str") = some false := kit_ty K _ _ (by decide +kernel)
theorem kit_bool_str (K : PySem.W.Frag) : PySem.W.kitOne K (.type "bool") (.type "str") = some false := kit_ty K _ _ (by decide +kernel)
theorem kit_dict_str (K : PySem.W.Frag) : PySem.W.kitOne K (.type "dict") (.type "str") = some false := kit_ty K _ _ (by decide +kernel)
section
variable {H : Hp} {Q : VK} {K : PySem.W.Frag}
theorem r_isi_ii {i : Int} (q : Q (.bl true) H) : rIsi K [.int i, .ty "int"] H Q := r_isi (.int i) ⟨_, .inl rfl⟩ (kit_int_int K) q
theorem r_isi_ib {i : Int} (q : Q (.bl false) H) : rIsi K [.int i, .ty "bool"] H Q := r_isi (.int i) ⟨_, .inl rfl⟩ (kit_int_bool K) q
theorem r_isi_bb {i : Bool} (q : Q (.bl true) H) : rIsi K [.bl i, .ty "bool"] H Q := r_isi (.bl i) ⟨_, .inl rfl⟩ (kit_bool_bool K) q
theorem r_isi_bi {i : Bool} (q : Q (.bl true) H) : rIsi K [.bl i, .ty "int"] H Q := r_isi (.bl i) ⟨_, .inl rfl⟩ (kit_bool_int K) q
theorem r_isi_tt {p : Addr} {xs : List V} (h : H p = some (.tup xs)) (q : Q (.bl true) H) : rIsi K [.ref p, .ty "tuple"] H Q := r_isi (.tup h) ⟨_, .inl rfl⟩ (kit_tuple_tuple K) q
end
/-! ### tests -/
theorem i_d {c : Prop} [Decidable c] {A B : Prop} (h1 : c → A) (h2 : ¬ c → B) : if decide c = true then A else B := by
  by_cases h : c
  · rw [if_pos (decide_eq_true h)]; exact h1 h
  · rw [if_neg (by rw [decide_eq_false h]; decide)]; exact h2 h
theorem i_nd {c : Prop} [Decidable c] {A B : Prop} (h1 : c → B) (h2 : ¬ c → A) : if (!decide c) = true then A else B := by
  by_cases h : c
  · rw [decide_eq_true h]; exact h1 h
  · rw [decide_eq_false h]; exact h2 h
theorem i_dP {c : Prop} [Decidable c] {A B : Prop} (h : c) (h1 : A) : if decide c = true then A else B := i_d (fun _ => h1) (fun n => absurd h n)
theorem i_dN {c : Prop} [Decidable c] {A B : Prop} (h : ¬ c) (h1 : B) : if decide c = true then A else B := i_d (fun n => absurd n h) (fun _ => h1)
theorem i_ndP {c : Prop} [Decidable c] {A B : Prop} (h : c) (h1 : B) : if (!decide c) = true then A else B := i_nd (fun _ => h1) (fun n => absurd h n)
theorem i_ndN {c : Prop} [Decidable c] {A B : Prop} (h : ¬ c) (h1 : A) : if (!decide c) = true then A else B := i_nd (fun n => absurd n h) (fun _ => h1)
theorem i_b {b : Bool} {A B : Prop} (h1 : b = true → A) (h2 : b = false → B) : if b = true then A else B := by
  cases b with
  | true => rw [if_pos rfl]; exact h1 rfl
  | false => rw [if_neg (by decide)]; exact h2 rfl
theorem i_nT {A B : Prop} (h : B) : if (!true) = true then A else B := h
theorem i_nF {A B : Prop} (h : A) : if (!false) = true then A else B := h
end L2

set_option Elab.async false
set_option linter.all false
set_option maxRecDepth 100000
set_option maxHeartbeats 4000000
namespace L2
open PySem PySem.Spec PyProof.Rows

/-! ### a list comprehension: one clause, a name as its target -/
/-- the context of the block: C its frame; fp the iterator's objects -/
def cxComp (X : Cx) (scope : Scope) (cl : List (Str × Addr)) (N' : List Str) (C : Addr) (s₂ : Shared) (H₂ : Hp) (fp : List Addr) : Cx where
  prog := X.prog
  w := X.w
  K := X.K
  mg := X.mg
  base := X.base
  A := X.A
  N := N'
  s₀ := s₂
  H₀ := H₂
  env := compEnvC scope cl C X.env
  outer := X.stack
  stack := X.stack
  ex := fp
  calm := X.calm
  fn := fun _ => false
  pn := []
  xe := fun _ _ => False
/-- the cells that the block closes over are the frame's own -/
def ClOk (cells : List (Str × Addr)) : List (Str × Addr) → Prop
  | [] => True
  | p :: r => cells.lookup p.1 = some p.2 ∧ ClOk cells r
theorem ClOk.look {cells : List (Str × Addr)} : ∀ {cl : List (Str × Addr)} {x : Str} {c : Addr}, ClOk cells cl → cl.lookup x = some c → cells.lookup x = some c
  | [], _, _, _, h => by simp at h
  | (y, d) :: r, x, c, ⟨h1, h2⟩, h => by
    rw [List.lookup_cons] at h
    cases e : x == y with
    | true =>
      rw [e] at h
      have e' : x = y := eq_of_beq e
      cases h
      rw [e']; exact h1
    | false =>
      rw [e] at h
      exact ClOk.look h2 h
/-- the names that the block closes over, their places in the frame -/
def FrOk (X : Cx) (scope : Scope) : List Str → List Nat → Prop
  | [], [] => True
  | y :: r, j :: js => (X.N[j]? = some y ∧ scope.names.lookup y = some .free ∧ (X.env.kindOf y = some .cell ∨ X.env.kindOf y = some .free)) ∧ FrOk X scope r js
  | _, _ => False
theorem FrOk.get {X : Cx} {scope : Scope} : ∀ {fr : List Str} {js : List Nat} {k : Nat} {y : Str}, FrOk X scope fr js → fr[k]? = some y → ∃ j, js[k]? = some j ∧ X.N[j]? = some y ∧ scope.names.lookup y = some .free ∧ (X.env.kindOf y = some .cell ∨ X.env.kindOf y = some .free)
  | [], _, _, _, _, h => by simp at h
  | _ :: _, [], _, _, h, _ => h.elim
  | y :: r, j :: js, 0, z, ⟨h1, _⟩, h => by simp at h; subst h; exact ⟨j, rfl, h1⟩
  | y :: r, j :: js, k + 1, z, ⟨_, h2⟩, h => by
    obtain ⟨j', e, q⟩ := FrOk.get (k := k) h2 (by simpa using h)
    exact ⟨j', by simpa using e, q⟩
theorem FrOk.len {X : Cx} {scope : Scope} : ∀ {fr : List Str} {js : List Nat}, FrOk X scope fr js → fr.length = js.length
  | [], [], _ => rfl
  | [], _ :: _, h => h.elim
  | _ :: _, [], h => h.elim
  | _ :: r, _ :: js, h => by rw [List.length_cons, List.length_cons, FrOk.len h.2]
/-- what a name is in the block -/
theorem relabel_look {env : Env} : ∀ {names : List (Str × NameKind)} {x : Str}, (∀ y ∈ names, y.2 ≠ .cell) →
    ((names.map fun (n, k) => if (k == NameKind.free && env.scope.kind == .function && env.kindOf n == some .cell) then (n, NameKind.cell) else (n, k)).lookup x = some .cell ∨
     (names.map fun (n, k) => if (k == NameKind.free && env.scope.kind == .function && env.kindOf n == some .cell) then (n, NameKind.cell) else (n, k)).lookup x = some .free) → names.lookup x = some .free
  | [], _, _, h => by simp at h
  | (n, k) :: r, x, hc, h => by
    have ih := @relabel_look env r x (fun y hy => hc y (List.mem_cons_of_mem _ hy))
    rw [List.map_cons] at h
    dsimp only at h
    by_cases hb : (k == NameKind.free && env.scope.kind == .function && env.kindOf n == some .cell) = true
    · rw [if_pos hb] at h
      rw [List.lookup_cons] at h
      rw [List.lookup_cons]
      cases e : x == n with
      | true =>
        have : k = .free := by simp at hb; exact hb.1.1
        rw [this]
      | false =>
        rw [e] at h
        exact ih h
    · rw [if_neg hb] at h
      rw [List.lookup_cons] at h
      rw [List.lookup_cons]
      cases e : x == n with
      | true =>
        rw [e] at h
        have hk : k ≠ .cell := hc (n, k) List.mem_cons_self
        rcases h with h | h
        · exact absurd (Option.some.inj h) hk
        · exact h
      | false =>
        rw [e] at h
        exact ih h
theorem relabel_free {env : Env} (hk : env.scope.kind = .function) {x : Str} : ∀ {names : List (Str × NameKind)}, names.lookup x = some .free → (env.kindOf x = some .cell ∨ env.kindOf x = some .free) →
    ((names.map fun (n, k) => if (k == NameKind.free && env.scope.kind == .function && env.kindOf n == some .cell) then (n, NameKind.cell) else (n, k)).lookup x = some .cell ∨
     (names.map fun (n, k) => if (k == NameKind.free && env.scope.kind == .function && env.kindOf n == some .cell) then (n, NameKind.cell) else (n, k)).lookup x = some .free)
  | [], h, _ => by simp at h
  | (n, k) :: r, h, hx => by
    have ih := @relabel_free env hk x r
    rw [List.lookup_cons] at h
    rw [List.map_cons]
    dsimp only
    cases e : x == n with
    | true =>
      rw [e] at h
      have ek : k = .free := Option.some.inj h
      have en : x = n := eq_of_beq e
      subst ek
      rcases hx with hx | hx
      · left
        have hb : ((NameKind.free == NameKind.free) && env.scope.kind == .function && env.kindOf n == some .cell) = true := by rw [← en, hx, hk]; decide
        rw [if_pos hb, List.lookup_cons, e]
      · right
        have hb : ¬ ((NameKind.free == NameKind.free) && env.scope.kind == .function && env.kindOf n == some .cell) = true := by rw [← en, hx, hk]; decide
        rw [if_neg hb, List.lookup_cons, e]
    | false =>
      rw [e] at h
      rcases ih h hx with q | q
      · left
        split <;> rw [List.lookup_cons, e] <;> exact q
      · right
        split <;> rw [List.lookup_cons, e] <;> exact q

section
variable {X : Cx} {pins : List (Addr × Obj)} {σ : St} {H : Hp} {s : Shared}
/-- an untracked object of the heap is tracked from here on -/
theorem HOk.track {P : Program} {w : World} {H : Hp} {h : Heap} {a : Addr} {o : HO} (x : HOk P w H h) (hn : H a = none) (new : ObjOk P w (upd H a o) h a o) : HOk P w (upd H a o) h := fun b u e => by
  by_cases hb : b = a
  · subst hb; rw [upd_same] at e; cases e; exact new
  · rw [upd_ne hb] at e
    exact (x b u e).stay (fun c v _ q => q) (fun c q => by rw [upd_ne (ne_of_none q hn)]; exact q) fun c xs q => by rw [upd_ne (ne_of_none q hn)]; exact q
theorem Inv.track {a : Addr} {o : HO} (I : Inv X pins σ H s) (f : FpOk X pins H a) (new : ObjOk X.prog X.w (upd H a o) s.heap a o) : Inv X pins σ (upd H a o) s := by
  obtain ⟨f0, f1, f2, f3, f4, f5⟩ := f
  have up : ∀ b, H b = none → b ≠ a → upd H a o b = none := fun b e n => by rw [upd_ne n]; exact e
  have st : ∀ {b u}, H b = some u → upd H a o b = some u := fun {b u} e => by rw [upd_ne (ne_of_none e f0)]; exact e
  have na : ∀ b ob, X.s₀.heap.get? b = some ob → b ∉ X.ex → b ≠ a := fun b ob e hx z => by
    rcases f3 with q | q
    · exact hx (z ▸ q)
    · exact absurd (Nat.lt_of_lt_of_le (Heap.lt_size e) (z ▸ q)) (Nat.lt_irrefl _)
  refine ⟨I.ok, I.os, I.bare, ⟨I.base.keep, I.base.slot, fun b ob e n hx => up b (I.base.free b ob e n hx) (na b ob e hx), I.base.there, fun b xs e => st (I.base.tups b xs e), fun b ob u e => st (I.base.frzs b ob u e), fun b ps e => ?_⟩, I.loc, I.cell, up _ I.free (Ne.symm f1), fun x c e => up c (I.freeC x c e) (f4 x c e), fun p hp => ?_, I.hok.track f0 new, I.len⟩
  · obtain ⟨m, q⟩ := I.base.tbls b ps e
    exact ⟨m, st q⟩
  · obtain ⟨e, n, r⟩ := I.pin p hp
    exact ⟨e, up _ n (f5 p hp), r⟩
end

/-- the tests of a clause -/
def PIfs (Y : Cx) (ifs : List Expr) (t : TT) : Prop :=
  ∀ (pins : List (Addr × Obj)) (s : Shared) (σ : St) (H : Hp) (R : Bool → Hp → Prop), Inv Y pins σ H s → t σ H R →
    wpAny (model Y.prog Y.w) Y.A (forIn ifs true fun c r => if r = true then do let ok ← isTrue c Y.env (eval c Y.env); pure (ForInStep.yield ok) else pure (ForInStep.yield r)) (TP Y pins σ R) Y.xe s
def tNoIf : TT := fun _ H R => R true H
theorem pifs_nil {Y : Cx} : PIfs Y [] tNoIf := fun _ _ _ H _ I h => wpAny_tests_nil ⟨H, I, h⟩
theorem pifs_one {Y : Cx} {c : Expr} {t : TT} (h : PT Y c t) : PIfs Y [c] t := fun pins s σ H R I q => wpAny_tests_one (h pins s σ H R I q)

/-- the reading: W the invariant by the turn, a measure, the items so far -/
def kComp (is : List Nat) (tt : TT) (te : TE) (σ : St) (Q : VK) (J : It) (H1 : Hp) : Prop := ∃ W : Nat → Nat → List V → Hp → Prop, (∃ m, W 0 m [] H1) ∧ ∀ i m ys H, W i m ys H → ys.length ≤ sizeLine ∧
  ((J.stop i H ∧ ∀ p, H p = none → Q (.ref p) (upd H p (.lst ys))) ∨
   (J.go i H ∧ ys.length < sizeLine ∧ ∀ x H', J.yld i H x H' → tt (some x :: is.map fun j => (σ[j]?).getD none) H' fun ok H2 =>
     if ok = true then te (some x :: is.map fun j => (σ[j]?).getD none) H2 fun y H3 => ∃ m', m' < m ∧ W (i + 1) m' (ys ++ [y]) H3 else ∃ m', m' < m ∧ W (i + 1) m' ys H2))
def tComp (is : List Nat) (wi : TI) (tt : TT) (te : TE) : TE := fun σ H Q => wi σ H fun J H1 => kComp is tt te σ Q J H1

section
variable {X : Cx} {elt iter : Expr} {ifs : List Expr} {x : Str} {px pos : Pos} {scope : Scope} {cl : List (Str × Addr)} {fr : List Str} {is : List Nat} {wi : TI} {tt : TT} {te : TE}

theorem cxComp_ok {pins : List (Addr × Obj)} {σ : St} {H₂ : Hp} {s₂ : Shared} {C : Addr} {fp : List Addr} {N' : List Str} (I : Inv X pins σ H₂ s₂) (hC : s₂.heap.objs.size ≤ C) (hf : ∀ b ∈ fp, FpOk X pins H₂ b) (hfl : ∀ b ∈ fp, b < s₂.heap.objs.size)
    (hcell : ∀ y ∈ scope.names, y.2 ≠ .cell) (hkind : scope.kind = .function) (hcl : ClOk X.env.cells cl) (hfree : (scope.names.all fun p => p.2 != .free || (cl.lookup p.1).isSome) = true) : (cxComp X scope cl N' C s₂ H₂ fp).Ok where
  mod := I.mod
  kind := hkind
  glob := I.ok.glob
  blt := I.ok.blt
  above := hC
  inj := fun x y c h1 h2 => I.ok.inj x y c (hcl.look h1) (hcl.look h2)
  has := fun y h => by
    have h' := relabel_look (env := X.env) hcell h
    have hm : (y, NameKind.free) ∈ scope.names := by
      have aux : ∀ {l : List (Str × NameKind)}, l.lookup y = some .free → (y, NameKind.free) ∈ l := by
        intro l
        induction l with
        | nil => intro z; simp at z
        | cons p r ih =>
          intro z
          obtain ⟨n, k⟩ := p
          rw [List.lookup_cons] at z
          cases e : y == n with
          | true => rw [e] at z; cases z; rw [eq_of_beq e]; exact List.mem_cons_self
          | false => rw [e] at z; exact List.mem_cons_of_mem _ (ih z)
      exact aux h'
    have q : ((NameKind.free != NameKind.free) || (cl.lookup y).isSome) = true := List.all_eq_true.mp hfree _ hm
    have q' : (cl.lookup y).isSome = true := by rw [bne_self_eq_false, Bool.false_or] at q; exact q
    exact Option.isSome_iff_exists.mp q'
  cab := fun _ _ h _ => by cases h
  hd := I.ok.hd
  frames := I.ok.frames
  stk := .inl rfl
  exf := fun b hb => ⟨Nat.ne_of_lt (Nat.lt_of_lt_of_le (hfl b hb) hC), fun y c e => (hf b hb).2.2.2.2.1 y c (hcl.look e)⟩
  bs := I.bs
  bsz := Nat.le_trans I.ok.bsz I.sz
  noex := fun b o e hb => by
    rcases (hf b hb).2.2.2.1 with q | q
    · exact I.ok.noex b o e q
    · exact absurd (Nat.lt_of_lt_of_le (Heap.lt_size e) (Nat.le_trans I.ok.bsz q)) (Nat.lt_irrefl _)
  exfs := fun b hb z => by
    rcases List.mem_cons.mp (I.stkSub b z) with q | q
    · exact (hf b hb).2.1 q
    · exact (hf b hb).2.2.1 q
  funs := I.stack
  frf := I.stkFree

/-- the block's end, in the frame's context -/
def CompOut (X : Cx) (pins : List (Addr × Obj)) (σ : St) (Q : VK) (acc : Value) (C : Addr) (r : Result) (s' : Shared) : Prop := match r with
  | .ok _ => ∃ (D : Addr) (H' : Hp) (m : Str → Option Value), acc = .ref D ∧ Inv X pins σ H' s' ∧ s'.heap.Ns C m ∧ FpOk X pins H' C ∧ Q (.ref D) H'
  | .error _ => False

theorem unlet {M : Model} {A : Around} {E : Value → Shared → Prop} {s : Shared} {x : Str} {px : Pos} {it u : Value} {Q1 : Unit → Shared → Prop} {α : Type} {t : Sem α} {Q2 : α → Shared → Prop} (h : wpAny M A (letOwnedTupleGo (.Name x px) it u) Q1 E s) (k : ∀ s, Q1 () s → wpAny M A t Q2 E s) : wpAny M A t Q2 E s := by
  have z : wpAny M A (letOwnedTupleGo (.Name x px) it u >>= fun _ => t) Q2 E s := wpAny_bind (thn h fun _ s q => k s q)
  rw [show letOwnedTupleGo (.Name x px) it u = pure () from rfl, pure_bind] at z
  exact z
theorem comp_core {pins : List (Addr × Obj)} {σ : St} {Q : VK} {E : Value → Shared → Prop} {s₂ : Shared} {H₂ : Hp} {it : Addr} {fp : List Addr} {tn : Nat → Heap → Prop} {J : It}
    (hc : X.calm = true) (hcell : ∀ y ∈ scope.names, y.2 ≠ .cell) (hkind : scope.kind = .function) (hx : scope.names.lookup x = some .local) (hcl : ClOk X.env.cells cl)
    (hfree : (scope.names.all fun p => p.2 != .free || (cl.lookup p.1).isSome) = true) (hfr : FrOk X scope fr is) (hnd : (x :: fr).Nodup)
    (ht : ∀ C s₂ H₂ fp, PIfs (cxComp X scope cl (x :: fr) C s₂ H₂ fp) ifs tt) (he : ∀ C s₂ H₂ fp, PE (cxComp X scope cl (x :: fr) C s₂ H₂ fp) elt te)
    (I : Inv X pins σ H₂ s₂) (T : Turn X.prog X.w X.K (.Name x px) J fp it tn) (st : tn 0 s₂.heap) (hf : ∀ b ∈ fp, FpOk X pins H₂ b) (R : kComp is tt te σ Q J H₂) :
    wpAny (model X.prog X.w) X.A (newList []) (fun acc s₃ => wpAny (model X.prog X.w) X.A (newFunctionEnv scope X.env.globals cl [] X.env.qual none .none (some X.env)) (fun cenv s₄ =>
      codeAny (model X.prog X.w) X.A (.compStart (.ListComp elt [⟨.Name x px, iter, ifs, 0⟩] scope pos) 0 (.ref it) acc { cenv with scope := relabel scope X.env }) (CompOut X pins σ Q acc cenv.locals) s₄) E s₃) E s₂ := by
  obtain ⟨W, ⟨m0, w0⟩, turn⟩ := R
  refine wpAny_newObj_type (wpAny_newFunctionEnv hcell (by intro y hy; simp at hy) (fun h₁ hns₁ hsb₁ => ?_) hkind)
  dsimp only at hns₁ hsb₁ ⊢
  generalize hH2 : s₂.heap.push { cls := .type "list", dict := none, data := .seq ([] : List Value).toArray } = G2 at hns₁ hsb₁ ⊢
  have hC : G2.objs.size = s₂.heap.objs.size + 1 := by rw [← hH2, Heap.size_push]
  have hDC : s₂.heap.objs.size ≠ G2.objs.size := by rw [hC]; exact Nat.ne_of_lt (Nat.lt_succ_self _)
  have below : ∀ b, b < s₂.heap.objs.size → b ≠ G2.objs.size ∧ b ≠ s₂.heap.objs.size := fun b hb => ⟨by rw [hC]; exact Nat.ne_of_lt (Nat.lt_succ_of_lt hb), Nat.ne_of_lt hb⟩
  have hfl : ∀ b ∈ fp, b < s₂.heap.objs.size := fun b hb => by obtain ⟨o, e, _⟩ := T.obj _ _ st b hb; exact Heap.lt_size e
  have old : ∀ b o, s₂.heap.get? b = some o → h₁.get? b = some o := fun b o e => hsb₁.extBut b o (below b (Heap.lt_size e)).1 (Heap.get?_push_of_some _ (hH2 ▸ Heap.get?_push_of_some _ e))
  have hacc : h₁.get? s₂.heap.objs.size = some { cls := .type "list", data := .seq ([] : List Value).toArray 0 } := hsb₁.extBut _ _ hDC (Heap.get?_push_of_some _ (hH2 ▸ Heap.get?_push_size _ rfl))
  have hfresh : ∀ b, s₂.heap.objs.size ≤ b → H₂ b = none := fun b hb => I.hok.fresh hb
  have hCle : s₂.heap.objs.size ≤ G2.objs.size := by rw [hC]; exact Nat.le_succ _
  generalize hCe : G2.objs.size = C at *
  generalize hDe : s₂.heap.objs.size = D at *
  have ok : (cxComp X scope cl (x :: fr) C s₂ H₂ fp).Ok := cxComp_ok I (by rw [hDe]; exact hCle) hf (by rw [hDe]; exact hfl) hcell hkind hcl hfree
  have hYc : (cxComp X scope cl (x :: fr) C s₂ H₂ fp).calm = true := hc
  have hDfp : ∀ b ∈ fp, b ≠ D := fun b hb => Nat.ne_of_lt (hfl b hb)
  have hDst : D ∉ frs X.stack := fun z => by
    rcases List.mem_cons.mp (I.stkSub D z) with q | q
    · have := I.lt; rw [hDe, ← q] at this; exact Nat.lt_irrefl _ this
    · exact I.nofs (by rw [hDe]; exact Nat.le_refl _) q
  have hfY : ∀ {H' : Hp} {its : List Value} {n : Nat}, (∀ b ∈ fp, H' b = none) → ∀ b ∈ fp, FpOk (cxComp X scope cl (x :: fr) C s₂ H₂ fp) [(D, { cls := .type "list", data := .seq its.toArray n })] H' b := fun hn b hb =>
    ⟨hn b hb, (ok.exf b hb).1, ok.exfs b hb, .inl hb, (ok.exf b hb).2, fun p hp => by
      have e : p = (D, { cls := .type "list", data := .seq _ _ }) := List.mem_singleton.mp hp
      rw [e]; exact Ne.symm (hDfp b hb)⟩
  -- the block's start
  have lenF : (is.map fun j => (σ[j]?).getD none).length = fr.length := by rw [List.length_map, hfr.len]
  have I0 : Inv (cxComp X scope cl (x :: fr) C s₂ H₂ fp) [(D, { cls := .type "list", data := .seq ([] : List Value).toArray 0 })] (none :: is.map fun j => (σ[j]?).getD none) H₂ { s₂ with heap := h₁, toks := s₂.toks + ([] : List (Str × Value)).length } := by
    refine ⟨ok, rfl, I.bare, Un.kept old, ⟨_, hns₁, fun i y v e1 e2 e3 => ?_⟩, fun y c e => ?_, hfresh C hCle, fun y c e => I.freeC y c (hcl.look e), fun p hp => ?_, I.hok.kept old, ?_⟩
    · cases i with
      | zero => cases e2
      | succ k =>
        have e1' : fr[k]? = some y := e1
        have e2' : (is.map fun j => (σ[j]?).getD none)[k]? = some (some v) := e2
        obtain ⟨j, hj, hN, hfy, hkx⟩ := hfr.get e1'
        rw [List.getElem?_map, hj] at e2'
        have e4 : (σ[j]?).getD none = some v := Option.some.inj e2'
        have e5 : σ[j]? = some (some v) := by
          cases q : σ[j]? with
          | none => rw [q] at e4; cases e4
          | some o => rw [q] at e4; have e4' : o = some v := e4; rw [e4']
        obtain ⟨m, hn, hl⟩ := id I.loc
        have hvis : Vis X.env.scope y := hkx.elim (fun q => .inr (.inl q)) fun q => .inr (.inr q)
        obtain ⟨u, r, lk⟩ := hl j y v hN e5 hvis
        refine ⟨u, r, .inr ⟨relabel_free I.ok.kind hfy hkx, ?_⟩⟩
        rcases lk with ⟨kl, _⟩ | ⟨_, c, ec, ic⟩
        · rcases hkx with q | q <;> rw [kl] at q <;> cases q
        · obtain ⟨c', ec'⟩ := ok.has y (relabel_free I.ok.kind hfy hkx)
          have : c' = c := Option.some.inj ((hcl.look ec').symm.trans ec)
          rw [this] at ec'
          obtain ⟨o, ho, hd⟩ := ic
          exact ⟨c, ec', o, old c o ho, hd⟩
    · obtain ⟨v, o, ho, hd⟩ := I.cell y c (hcl.look e)
      exact ⟨v, o, old c o ho, hd⟩
    · have e : p = (D, { cls := .type "list", data := .seq ([] : List Value).toArray 0 }) := List.mem_singleton.mp hp
      rw [e]
      exact ⟨hacc, hfresh D (Nat.le_refl _), hDC, hDst, fun v z => by cases z⟩
    · show (none :: _).length = (x :: fr).length
      rw [List.length_cons, List.length_cons, lenF]
  -- the loop
  have loop : ∀ s₃ : Shared, s₃ = { s₂ with heap := h₁, toks := s₂.toks + ([] : List (Str × Value)).length } →
      codeAny (model X.prog X.w) X.A (.compLoop (.ListComp elt [⟨.Name x px, iter, ifs, 0⟩] scope pos) 0 (.ref it) (.ref D) (compEnvC scope cl C X.env)) (CompOut X pins σ Q (.ref D) C) s₃ := by
    rintro s₃ rfl
    refine codeAny_compLoop_tests (fun n s' => ∃ (i : Nat) (o : Option V) (ys : List V) (its : List Value) (k : Nat) (H' : Hp), Inv (cxComp X scope cl (x :: fr) C s₂ H₂ fp) [(D, { cls := .type "list", data := .seq its.toArray k })] (o :: is.map fun j => (σ[j]?).getD none) H' s' ∧
      tn i s'.heap ∧ (∀ b ∈ fp, H' b = none) ∧ Vals ys its ∧ W i n ys H') ?_ m0 ⟨0, none, [], [], 0, H₂, I0, T.keep _ _ _ st fun b _ o e => old b o e, fun b hb => (hf b hb).1, .nil, w0⟩
    rintro n s' ⟨i, o, ys, its, k, H', I', st', fr', vs, w'⟩
    obtain ⟨hlen, ⟨stop, fin⟩ | ⟨go, hlt, step⟩⟩ := turn i n ys H' w'
    · refine wpAny_mono (T.done (cxComp X scope cl (x :: fr) C s₂ H₂ fp) rfl rfl rfl hYc i _ s' _ H' (fun _ _ => False) I' (hfY fr') st' stop) (fun r s1 ⟨hr, I1⟩ => ?_) fun _ _ z => z.elim
      subst hr
      obtain ⟨pD, nD, _, _, _⟩ := I1.pin _ (List.mem_append_right _ (List.mem_singleton.mpr rfl))
      have IX : Inv X pins σ H' s1 := I.call' I1.os I1.base I1.hok I1.bare fun b hb => ⟨(hf b hb).2.2.2.1, (hf b hb).2.1, (hf b hb).2.2.2.2.1, (hf b hb).2.2.2.2.2⟩
      have fD : FpOk X pins H' D := I.fpOk (by rw [hDe]; exact Nat.le_refl _) nD
      obtain ⟨m, hn, _⟩ := id I1.loc
      have hC' : H' C = none := I1.free
      refine ⟨D, upd H' D (.lst ys), m, rfl, IX.track fD ⟨hlen, its, k, vs, pD⟩, hn, I.fpOk (by rw [hDe]; exact hCle) (by rw [upd_ne (Ne.symm hDC)]; exact hC'), fin D nD⟩
    · refine wpAny_mono (T.item (cxComp X scope cl (x :: fr) C s₂ H₂ fp) rfl rfl rfl hYc i _ s' _ H' (fun _ _ => False) I' (hfY fr') st' go) (fun r s1 ⟨u, hr, h4⟩ => ?_) fun _ _ z => z.elim
      subst hr
      refine wpAny_mono (unlet (Q2 := fun _ s6 => _) h4 fun s2 ⟨v, H5, I5, r5, y5, st5, fr5⟩ => ?_) (fun _ _ q => q) fun _ _ z => z.elim
      have I5' := I5.pinned (hfY fr5) (T.obj _ _ st5)
      refine thn (pg_name (X := cxComp X scope cl (x :: fr) C s₂ H₂ fp) (i := 0) hnd rfl (.inl (lookup_relabel_local hx)) (.inr (lookup_relabel_local hx)) _ s2 _ H5 v u (fun σ' H' => σ' = (some v :: is.map fun j => (σ[j]?).getD none) ∧ H' = H5) I5' r5 ⟨rfl, rfl⟩) fun _ s6 ⟨σ6, H6, I6, e6, e7⟩ => ?_
      subst e6 e7
      refine wpAny_mono (ht C s₂ H₂ fp _ s6 _ H6 _ I6 (step v H6 y5)) (fun ok7 s7 ⟨H7, I7, q7⟩ => ?_) fun _ _ z => z.elim
      have keep : ∀ {σ8 : St} {H8 : Hp} {s8 : Shared}, Inv (cxComp X scope cl (x :: fr) C s₂ H₂ fp) ([(D, { cls := .type "list", data := .seq its.toArray k })] ++ pinsAt fp s2.heap) σ8 H8 s8 → tn (i + 1) s8.heap ∧ ∀ b ∈ fp, H8 b = none := fun {σ8 H8 s8} I8 =>
        ⟨T.keep _ _ _ st5 fun b hb o e => (I8.pin (b, o) (List.mem_append_right _ (List.mem_append_right _ (mem_pinsAt hb e)))).1, fun b hb => by
          obtain ⟨o, e, d⟩ := T.obj _ _ st5 b hb
          exact (I8.pin (b, o) (List.mem_append_right _ (List.mem_append_right _ (mem_pinsAt hb e)))).2.1⟩
      cases ok7 with
      | false =>
        obtain ⟨m', hm', w7⟩ := q7
        exact ⟨m', hm', i + 1, _, ys, its, k, H7, I7.unpinned, (keep I7).1, (keep I7).2, vs, w7⟩
      | true =>
        refine wpAny_mono (he C s₂ H₂ fp _ s7 _ H7 _ I7 q7) (fun yv s8 ⟨y, H8, I8, r8, m', hm', w8⟩ => ?_) fun _ _ z => z.elim
        obtain ⟨pD, nD, neD, nfD, ncD⟩ := I8.pin (D, { cls := .type "list", data := .seq its.toArray k }) (List.mem_append_right _ (List.mem_append_left _ (List.mem_singleton.mpr rfl)))
        have hl := vs.length
        refine append_at (hsz := by rw [List.size_toArray, ← hl]; exact hlen) pD fun h9 sb9 hD9 => ?_
        obtain ⟨st8, fr8⟩ := keep I8
        have I8' : Inv (cxComp X scope cl (x :: fr) C s₂ H₂ fp) [] (some v :: is.map fun j => (σ[j]?).getD none) H8 s8 := I8.pins_of fun p hp => nomatch hp
        have I9 : Inv (cxComp X scope cl (x :: fr) C s₂ H₂ fp) [] (some v :: is.map fun j => (σ[j]?).getD none) H8 { s8 with heap := h9 } :=
          I8'.turned (t' := s8.toks) (fun b o hb e => (sb9.2 b hb).trans e) nD neD (.inr (by rw [← hDe]; exact Nat.le_refl _)) (fun y' c e z => by
            obtain ⟨v', o', ho', hd'⟩ := I8'.cell y' c e
            rw [z, pD] at ho'; cases ho'; cases hd') (fun p hp => nomatch hp)
        refine ⟨m', hm', i + 1, _, ys ++ [y], its ++ [yv], k + 1, H8, I9.pins_of fun p hp => ?_, T.keep _ _ _ st8 fun b hb o e => (sb9.2 b (hDfp b hb)).trans e, fr8, vs.append (.cons r8 .nil), w8⟩
        rw [List.mem_singleton.mp hp]
        refine ⟨?_, nD, neD, nfD, fun v z => by cases z⟩
        rw [← List.push_toArray]
        exact hD9
  exact codeAny_compStart_list (loop _ rfl) (T.self _ 0 _ _ _ (T.keep _ _ _ st fun b _ o e => old b o e) (loop _ rfl))

theorem pe_comp (hc : X.calm = true) (hclos : closureFor scope X.env = pure cl) (hcl : ClOk X.env.cells cl) (hfree : (scope.names.all fun p => p.2 != .free || (cl.lookup p.1).isSome) = true) (hfr : FrOk X scope fr is) (hnd : (x :: fr).Nodup)
    (hcell : ∀ y ∈ scope.names, y.2 ≠ .cell) (hkind : scope.kind = .function) (hnames : ∀ y ∈ scope.names, y.2 = .local → scope.names.lookup y.1 = some .local) (hx : scope.names.lookup x = some .local)
    (hi : PI X (.Name x px) iter wi) (ht : ∀ C s₂ H₂ fp, PIfs (cxComp X scope cl (x :: fr) C s₂ H₂ fp) ifs tt) (he : ∀ C s₂ H₂ fp, PE (cxComp X scope cl (x :: fr) C s₂ H₂ fp) elt te) (hs : ∀ x, foldedSetIterable iter X.env x = pure x := by intro _; rfl) :
    PE X (.ListComp elt [⟨.Name x px, iter, ifs, 0⟩] scope pos) (tComp is wi tt te) := by
  intro pins s σ H Q I h
  rw [eval_ListComp]
  refine wpAny_comprehension_free (use := none) rfl hs hclos hkind hnames (thn (hi pins s σ H _ I h) fun v s1 h1 => thn h1 fun itv s2 h2 => ?_)
  obtain ⟨it, fp, tn, J, H2, e, I2, T, st2, f2, R⟩ := h2
  subst e
  refine thn (comp_core hc hcell hkind hx hcl hfree hfr hnd ht he I2 T st2 f2 R) fun acc s3 h3 => thn h3 fun cenv s4 h4 => codeAny_mono h4 fun r s' q => ?_
  cases r with
  | error e => exact q.elim
  | ok f =>
    obtain ⟨D, H', m, rfl, I', hn, fC, q⟩ := q
    obtain ⟨f0, f1, _, f3, f4, f5⟩ := fC
    exact ⟨m, hn, fun h' sb => ⟨.ref D, H', I'.turned (t' := s'.toks) (fun b o hb e => (sb.2 b hb).trans e) f0 f1 f3 f4 f5, rfl, q⟩⟩

theorem ps_setcomp {i : Nat} {y : Str} {py spos : Pos} (hN : X.N.Nodup) (hiy : X.N[i]? = some y) (hy : Loc X.env.scope y) (hsw : swapsWith (.ListComp elt [⟨.Name x px, iter, ifs, 0⟩] scope pos) (some (.Name y py)) spos.line X.env = pure true)
    (hc : X.calm = true) (hclos : closureFor scope X.env = pure cl) (hcl : ClOk X.env.cells cl) (hfree : (scope.names.all fun p => p.2 != .free || (cl.lookup p.1).isSome) = true) (hfr : FrOk X scope fr is) (hnd : (x :: fr).Nodup)
    (hcell : ∀ y ∈ scope.names, y.2 ≠ .cell) (hkind : scope.kind = .function) (hnames : ∀ y ∈ scope.names, y.2 = .local → scope.names.lookup y.1 = some .local) (hx : scope.names.lookup x = some .local)
    (hi : PI X (.Name x px) iter wi) (ht : ∀ C s₂ H₂ fp, PIfs (cxComp X scope cl (x :: fr) C s₂ H₂ fp) ifs tt) (he : ∀ C s₂ H₂ fp, PE (cxComp X scope cl (x :: fr) C s₂ H₂ fp) elt te) (hs : ∀ x, foldedSetIterable iter X.env x = pure x := by intro _; rfl)
    (hf : X.fn y = true ∨ X.env.scope.names.lookup y = some .local := by first | exact .inl rfl | exact .inr rfl | assumption) :
    PS X (.Assign [.Name y py] (.ListComp elt [⟨.Name x px, iter, ifs, 0⟩] scope pos) spos) (tAsg (tComp is wi tt te) (gName i)) := by
  intro pins s σ H D0 I h
  rw [exec_Assign_Name_used _ _ _ _ hsw]
  refine wpAny_bind (wpAny_standAt (wpAny_bind ?_))
  show wpAny _ X.A (do let _ ← comprehension (.ListComp elt [⟨.Name x px, iter, ifs, 0⟩] scope pos) scope X.env _ (newList []) false (eval iter X.env) (some (assign (.Name y py) X.env))) _ _ s
  refine wpAny_bind (wpAny_mono (wpAny_comprehension_free (use := some (assign (.Name y py) X.env)) (Q := fun _ s' => SP X pins D0 .next s') rfl hs hclos hkind hnames
    (thn (hi pins s σ H _ I h) fun v s1 h1 => thn h1 fun itv s2 h2 => ?_)) (fun _ s' hq => wpAny_pure (wpAny_pure hq)) fun _ _ e => e)
  obtain ⟨it, fp, tn, J, H2, e, I2, T, st2, f2, R⟩ := h2
  subst e
  refine thn (comp_core hc hcell hkind hx hcl hfree hfr hnd ht he I2 T st2 f2 R) fun acc s3 h3 => thn h3 fun cenv s4 h4 => codeAny_mono h4 fun r s' q => ?_
  cases r with
  | error e => exact q.elim
  | ok f =>
    obtain ⟨D, H', m, rfl, I', hn, fC, q⟩ := q
    obtain ⟨f0, f1, _, f3, f4, f5⟩ := fC
    show wpAny _ _ (assign (.Name y py) X.env (.ref D)) _ _ _
    refine wpAny_assign_Name (store_ok2 I' hN hiy hy (v := .ref D) rfl (fun s'' I'' ⟨a, sb, ha⟩ => ?_) hf)
    have hCa : cenv.locals ≠ a := by
      rcases ha with rfl | ha
      · exact f1
      · exact Ne.symm (f4 y a ha)
    refine ⟨m, hn.sameBut sb hCa, fun h' sb' => ⟨_, H', I''.turned (t' := s''.toks) (fun b o hb e => (sb'.2 b hb).trans e) f0 f1 f3 f4 f5, q⟩⟩
end
section
variable {K : PySem.W.Frag} {σ : St} {H : Hp} {Q : VK} {is : List Nat} {tt : TT} {te : TE}
def kCompL (K : PySem.W.Frag) (is : List Nat) (tt : TT) (te : TE) (σ : St) (Q : VK) (x : V) (H : Hp) : Prop := ∃ a, x = .ref a ∧ (∃ xs, SqL K H a xs) ∧ kComp is tt te σ Q (Itl K a) H
theorem r_compL {tl : TE} (h : tl σ H (kCompL K is tt te σ Q)) : tComp is (iList K tl) tt te σ H Q := h
/-- behind a turn -/
def NxC (n : Nat) (Pv : Nat → List V → Hp → Prop) (i : Nat) (ys : List V) (H : Hp) : Prop := ∃ m', m' < n - i ∧ m' = n - (i + 1) ∧ i + 1 ≤ n ∧ Pv (i + 1) ys H
theorem nxC {n : Nat} {Pv : Nat → List V → Hp → Prop} {i : Nat} {ys : List V} {H : Hp} (h : i < n) (p : Pv (i + 1) ys H) : NxC n Pv i ys H := ⟨_, by omega, rfl, h, p⟩
theorem r_noIf {s : St} {R : Bool → Hp → Prop} (h : R true H) : tNoIf s H R := h
/-- over a list that stays -/
theorem r_kCompL {a : Addr} {xs : List V} (hx : SqL K H a xs) (hz : xs.length ≤ sizeLine) (Pv : Nat → List V → Hp → Prop) (h0 : Pv 0 [] H) (hl : ∀ i ys H, i ≤ xs.length → Pv i ys H → SqL K H a xs ∧ ys.length ≤ i)
    (hs : ∀ i x ys H, xs[i]? = some x → i < xs.length → Pv i ys H → tt (some x :: is.map fun j => (σ[j]?).getD none) H fun ok H2 => if ok = true then te (some x :: is.map fun j => (σ[j]?).getD none) H2 fun y H3 => NxC xs.length Pv i (ys ++ [y]) H3 else NxC xs.length Pv i ys H2)
    (hd : ∀ ys H, Pv xs.length ys H → ∀ p H', Same H H' → H' p = some (.lst ys) → Q (.ref p) H') : kCompL K is tt te σ Q (.ref a) H := by
  refine ⟨a, rfl, ⟨xs, hx⟩, fun i m ys H => m = xs.length - i ∧ i ≤ xs.length ∧ Pv i ys H, ⟨xs.length, by simp, Nat.zero_le _, h0⟩, ?_⟩
  rintro i m ys H ⟨rfl, hi, p⟩
  obtain ⟨q, ly⟩ := hl i ys H hi p
  refine ⟨by omega, ?_⟩
  by_cases hlt : i < xs.length
  · refine .inr ⟨⟨xs, xs[i], q, by simp [hlt]⟩, by omega, fun x H' y => ?_⟩
    obtain ⟨e, y⟩ := y
    subst e
    exact hs i x ys _ (y xs q) hlt p
  · have e : i = xs.length := by omega
    subst e
    exact .inl ⟨⟨xs, q, Nat.le_refl _⟩, fun p' hp => hd ys H p p' _ (same_new hp _) upd_same⟩
def kCompR (is : List Nat) (tt : TT) (te : TE) (σ : St) (Q : VK) (vs : List V) (H : Hp) : Prop := ∃ j : Int, vs = [.int j] ∧ -(2 ^ 62) ≤ j ∧ j < 2 ^ 62 ∧ kComp is tt te σ Q (Itr 0 j.toNat) H
theorem r_compR {ta : TA} (h : ta σ H (kCompR is tt te σ Q)) : tComp is (iRng1 ta) tt te σ H Q := h
theorem r_kCompR {j : Int} (h1 : -(2 ^ 62) ≤ j) (h2 : j < 2 ^ 62) (hz : j.toNat ≤ sizeLine) (Pv : Nat → List V → Hp → Prop) (h0 : Pv 0 [] H) (hl : ∀ i ys H, i ≤ j.toNat → Pv i ys H → ys.length ≤ i)
    (hs : ∀ i ys H, i < j.toNat → Pv i ys H → tt (some (.int (0 + i)) :: is.map fun j => (σ[j]?).getD none) H fun ok H2 => if ok = true then te (some (.int (0 + i)) :: is.map fun j => (σ[j]?).getD none) H2 fun y H3 => NxC j.toNat Pv i (ys ++ [y]) H3 else NxC j.toNat Pv i ys H2)
    (hd : ∀ ys H, Pv j.toNat ys H → ∀ p H', Same H H' → H' p = some (.lst ys) → Q (.ref p) H') : kCompR is tt te σ Q [.int j] H := by
  refine ⟨j, rfl, h1, h2, fun i m ys H => m = j.toNat - i ∧ i ≤ j.toNat ∧ Pv i ys H, ⟨j.toNat, by simp, Nat.zero_le _, h0⟩, ?_⟩
  rintro i m ys H ⟨rfl, hi, p⟩
  have ly := hl i ys H hi p
  refine ⟨by omega, ?_⟩
  by_cases hlt : i < j.toNat
  · refine .inr ⟨hlt, by omega, fun x H' y => ?_⟩
    obtain ⟨e, y⟩ := y
    subst e y
    exact hs i ys _ hlt p
  · have e : i = j.toNat := by omega
    subst e
    exact .inl ⟨Nat.le_refl _, fun p' hp => hd ys H p p' _ (same_new hp _) upd_same⟩
end
/-! ### slices, sums of lists -/
section
variable {K : PySem.W.Frag} {σ : St} {H : Hp} {Q : VK}
theorem r_slice {r : V → Option Int → Option Int → Hp → VK → Prop} {te : TE} {tl th : TO} (h : te σ H fun x H1 => tl σ H1 fun l H2 => th σ H2 fun u H3 => r x l u H3 Q) : tSl r te tl th σ H Q := h
theorem r_noPart {R : Option Int → Hp → Prop} (h : R none H) : tNoPart σ H R := h
theorem r_part {t : TE} {R : Option Int → Hp → Prop} (h : t σ H fun x H1 => ∃ i, x = .int i ∧ R (some i) H1) : tPart t σ H R := h
theorem r_exint {i : Int} {R : Int → Prop} (h : R i) : ∃ k, V.int i = .int k ∧ R k := ⟨i, rfl, h⟩
theorem r_slL {a : Addr} {xs : List V} {lo hi : Option Int} (h : SqL K H a xs) (q : ∀ p H', Same H H' → H' p = some (.lst (cutV xs lo hi)) → Q (.ref p) H') : rSlL K (.ref a) lo hi H Q := ⟨a, xs, rfl, h, fun p hp => q p _ (same_new hp _) upd_same⟩
theorem r_cat {l b : Addr} {xs zs : List V} (h1 : H l = some (.lst xs)) (h2 : H b = some (.lst zs)) (hz : xs.length + zs.length ≤ sizeLine) (q : ∀ p H', Same H H' → H' p = some (.lst (xs ++ zs)) → Q (.ref p) H') : rCat (.ref l) (.ref b) H Q :=
  ⟨l, b, xs, zs, rfl, rfl, h1, h2, hz, fun p hp => q p _ (same_new hp _) upd_same⟩
theorem cutV_map {α : Type} (f : α → V) (xs : List α) (lo hi : Option Int) : ∃ ys : List α, cutV (xs.map f) lo hi = ys.map f ∧ ∀ y ∈ ys, y ∈ xs := by
  unfold cutV
  refine ⟨(xs.drop (HT.sIx (xs.map f).length 0 lo)).take (HT.sIx (xs.map f).length (xs.map f).length hi - HT.sIx (xs.map f).length 0 lo), ?_, fun y hy => List.mem_of_mem_drop (List.mem_of_mem_take hy)⟩
  rw [List.map_take, List.map_drop]
theorem cutV_sub (xs : List V) (lo hi : Option Int) : ∀ y ∈ cutV xs lo hi, y ∈ xs := fun y hy => by
  unfold cutV at hy
  exact List.mem_of_mem_drop (List.mem_of_mem_take hy)
end
theorem r_int1d {c : Prop} [Decidable c] {Q : VK} {H : Hp} (h1 : c → Q (.int 1) H) (h2 : ¬ c → Q (.int 0) H) : rInt1 [.bl (decide c)] H Q := by
  by_cases h : c
  · rw [decide_eq_true h]; exact r_int1b (h1 h)
  · rw [decide_eq_false h]; exact r_int1b (h2 h)
end L2

set_option Elab.async false
set_option linter.all false
set_option maxRecDepth 100000
set_option maxHeartbeats 4000000
namespace L2
open PySem PySem.Spec PyProof.Rows

section
variable {X : Cx}
/-! ### sorted of a list of ints -/
theorem vals_of_ints : ∀ {us : List Value} {ns : List Int}, IntsAre us ns → Vals (ns.map V.int) us
  | _, _, .nil => .nil
  | _, _, .cons n t h => .cons ⟨t, rfl⟩ (vals_of_ints h)
def rSorted (K : PySem.W.Frag) : List V → Hp → VK → Prop := fun xs H Q => ∃ (p : Addr) (ns : List Int), xs = [.ref p] ∧ SqL K H p (ns.map V.int) ∧ ns.length < 64 ∧
  ∀ (ms : List Int) (q : Addr) (H' : Hp), ms.Perm ns → ms.Pairwise (· ≤ ·) → Same H H' → H' q = some (.lst (ms.map V.int)) → Q (.ref q) H'
theorem call_sorted : CallR X (.builtin "sorted") (rSorted X.K) := by
  intro pins s σ H xs us Q I r h
  obtain ⟨p, ns, rfl, hq, h64, q⟩ := h
  obtain ⟨u, rfl, rx⟩ := vals1 r
  cases rx
  obtain ⟨its, r', pl, hz⟩ := I.list hq
  have hl := r'.length
  rw [List.length_map] at hl hz
  refine sorted_ints pl.isList (intsAre_of r') (by omega) fun out ms hi hp hs => ?_
  obtain ⟨e, he⟩ := sortedAll_at s.heap its out
  have hms : ms.length = ns.length := hp.length_eq
  have hf : H (s.heap.objs.size + 1) = none := I.hok.fresh (Nat.le_succ _)
  refine ⟨.ref (s.heap.objs.size + 1), upd H (s.heap.objs.size + 1) (.lst (ms.map V.int)), I.laid (t' := s.toks) (fun _ _ => sortedAll_old) (Nat.le_succ _) ⟨by rw [List.length_map, hms]; exact hz, out.toList, e, vals_of_ints hi, ?_⟩, rfl, q _ _ _ hp hs (same_new hf _) upd_same⟩
  rw [he, Array.toArray_toList]
theorem r_sorted {K : PySem.W.Frag} {H : Hp} {Q : VK} {p : Addr} {ns : List Int} (h : SqL K H p (ns.map V.int)) (h64 : ns.length < 64) (q : ∀ (ms : List Int) (q : Addr) (H' : Hp), ms.Perm ns → ms.Pairwise (· ≤ ·) → Same H H' → H' q = some (.lst (ms.map V.int)) → Q (.ref q) H') : rSorted K [.ref p] H Q := ⟨p, ns, rfl, h, h64, q⟩
theorem bo_sorted : bootBuiltins "sorted" = some (.builtin "sorted") := by decide +kernel

/-! ### xs.insert(i, y) at a place in the list -/
def rInsert : V → List V → Hp → VK → Prop := fun x vs H Q => ∃ l xs i y, x = .ref l ∧ vs = [.int i, y] ∧ H l = some (.lst xs) ∧ 0 ≤ i ∧ i.toNat ≤ xs.length ∧ xs.length < sizeLine ∧ Q .non (upd H l (.lst (xs.take i.toNat ++ y :: xs.drop i.toNat)))
theorem mt_insert : MtM X "list.insert" rInsert := by
  intro pins s σ H x vs v us Q I rx rv h
  obtain ⟨l, xs, i, y, rfl, rfl, hH, hi, hle, hz, q⟩ := h
  cases rx
  obtain ⟨u1, u2, rfl, r1, r2⟩ := vals2 rv
  obtain ⟨t, rfl⟩ := r1
  obtain ⟨z, its, n, r, hl, e⟩ := I.lstM hH
  have hf : Builtin.List.listFitsIndex i = true := by
    have hs : sizeLine < 2 ^ 62 := by decide
    exact fitsIndex_both (by omega) (by omega)
  refine call_meets F.slot_list_insert ⟨_, e, rfl⟩ F.entry_list_insert (F.args_list_insert_3 _ _ _) (AutoSeq1.list_insert_list_int_val_1 l its.toArray n i t u2 (by simp [hf]) (by rw [List.size_toArray]; omega)) ⟨e, ?_⟩
  refine ⟨.non, _, I.lset (its' := its.take i.toNat ++ u2 :: its.drop i.toNat) hH e ?_ ((r.take i.toNat).append (.cons r2 (r.drop i.toNat))) ?_, rfl, q⟩
  · show (its.toArray.extract 0 (if i < 0 then (i + ((its.toArray.size : Nat) : Int)).toNat else min i.toNat its.toArray.size)).push u2 ++ its.toArray.extract (if i < 0 then (i + ((its.toArray.size : Nat) : Int)).toNat else min i.toNat its.toArray.size) = _
    rw [if_neg (by omega), List.size_toArray, Nat.min_eq_left (by omega)]
    apply Array.ext'
    simp
    exact List.take_of_length_le (by rw [List.length_drop]; exact Nat.le_refl _)
  · rw [List.length_append, List.length_cons, List.length_take, List.length_drop]
    omega
theorem r_insert {H : Hp} {Q : VK} {l : Addr} {xs : List V} {i : Int} {y : V} (h : H l = some (.lst xs)) (h0 : 0 ≤ i) (h1 : i.toNat ≤ xs.length) (h2 : xs.length < sizeLine) (q : Q .non (upd H l (.lst (xs.take i.toNat ++ y :: xs.drop i.toNat)))) : rInsert (.ref l) [.int i, y] H Q := ⟨l, xs, i, y, rfl, rfl, h, h0, h1, h2, q⟩

/-! ### != of two lists of ints, alike long -/
def rNeL (K : PySem.W.Frag) : R2 := fun x y H Q => ∃ p q xs ys, x = .ref p ∧ y = .ref q ∧ SqL K H p xs ∧ SqL K H q ys ∧ xs.length = ys.length ∧ xs.all flatV = true ∧ ys.all flatV = true ∧ Q (.bl (!(List.range xs.length).all fun j => eqV (xs.getD j .non) (ys.getD j .non))) H
theorem op_neL (hu : X.A.units < cLine) : OpR X (compareOp .NotEq) (rNeL X.K) := by
  intro pins s σ H x y v u Q I rx ry h
  obtain ⟨p, q, xs, ys, rfl, rfl, hx, hy, hl, fx, fy, k⟩ := h
  cases rx; cases ry
  obtain ⟨its, r, pl, hz⟩ := I.list hx
  obtain ⟨its2, r2, pl2, hz2⟩ := I.list hy
  have e1 : its.toArray.size = xs.length := by simp [r.length]
  have e2 : its2.toArray.size = ys.length := by simp [r2.length]
  refine SeqAt.RcNeAt.lists (e := fun j => eqV (xs.getD j .non) (ys.getD j .non)) pl.isList pl2.isList (by omega) hu (fun j h1 h2 => ?_) _ _ _ _ ⟨.bl _, H, I, rfl, ?_⟩
  · exact eqAt_V (by simpa using Vals.getD j (by simpa using h1) r) (by simpa using Vals.getD j (by simpa using h2) r2) (flat_getD j fx) (flat_getD j fy)
  · rw [e1]; exact k
theorem r_neL {K : PySem.W.Frag} {H : Hp} {Q : VK} {p q : Addr} {ns : List Int} (h1 : SqL K H p (ns.map V.int)) (h2 : SqL K H q (ns.map V.int)) (k : Q (.bl false) H) : rNeL K (.ref p) (.ref q) H Q := by
  refine ⟨p, q, _, _, rfl, rfl, h1, h2, rfl, by simp [flatV], by simp [flatV], ?_⟩
  have e : ((List.range (ns.map V.int).length).all fun j => eqV ((ns.map V.int).getD j .non) ((ns.map V.int).getD j .non)) = true := by
    rw [List.all_eq_true]
    intro j hj
    have hj' : j < ns.length := by simpa using hj
    simp [List.getD, hj', eqV]
  rw [e]; exact k
end
end L2

set_option Elab.async false
set_option linter.all false
set_option maxRecDepth 100000
set_option maxHeartbeats 400000
namespace L2
open PySem PySem.Spec PyProof.Rows

/-! ### own error classes under ValueError, without __init__ -/
abbrev VEB : List Value := [.type "ValueError", .type "Exception", .type "BaseException", .type "object"]
structure Exc (K : PySem.W.Frag) (C : Addr) : Prop where
  ex : PySem.W.excIn K C VEB "ValueError.__new__" = true
  h1 : PySem.W.findIn K (.ref C) "__getattribute__" = some (some (.builtin "BaseException.__getattribute__"))
  h2 : PySem.W.findIn K (.ref C) "__getattr__" = some none
  hb : PySem.W.mroIn K C (.type "BaseException") = some true
  hd : PySem.W.hasDictIn K C = true
  ha : PySem.W.findIn K (.ref C) "__class__" = some (some (.builtin "object.__class__"))
  hn : PySem.W.specialIn K (.builtin "object.__class__") "__get__" = some (some (.builtin "getset_descriptor.__get__"))
  ht : PySem.W.takesIn K (.builtin "object.__class__") = some true
  hm : PySem.W.mroIn K C (.type "object") = some true

/-- an error object of the class at C: what stays of it -/
def ExAt (x C : Addr) (h : Heap) : Prop := ∃ o, h.get? x = some o ∧ o.cls = .ref C ∧ ∃ vs, o.data = .fields vs
theorem ExAt.keep {x C : Addr} {h h' : Heap} (e : ExAt x C h) (k : ∀ o, h.get? x = some o → h'.get? x = some o) : ExAt x C h' := let ⟨o, a, b⟩ := e; ⟨o, k o a, b⟩

section
open PySem.W PySem.Calls Builtin Builtin.ObjectAttr Builtin.Getset_descriptor
variable {K : Frag} {x C : Addr} {M : Model} {h : Heap}
theorem ExAt.ty (e : ExAt x C h) : Looks M h (typeOf (.ref x)) (.ref C) := by
  obtain ⟨o, h1, h2, _⟩ := e
  rw [← h2]
  exact (Looks.ld h1).andThen .now
theorem ex_find {a g : Value} {name : Str} (X : K.In h) (h1 : findIn K (.ref C) name = some (some a)) (h2 : specialIn K a "__get__" = some (some g)) (h3 : takesIn K a = some true) : Looks M h (Builtin.ObjectAttr.find (.ref x) (.ref C) name) (.bind g a) :=
  (looks_findIn X h1).andThen ((looks_specialIn X h2).andThen ((show Looks M h (Builtin.ObjectAttr.dataDescriptor? (some a) (some g)) (some (g, a)) from (looks_takesIn X h3).andThen .now).andThen (Looks.tag .now)))

variable {prog : Program} {w : World} {A : Around} {E : Value → Shared → Prop} {s : Shared}
theorem ex_get {tp : Value} {R : Result → Shared → Prop} (X : K.In s.heap) (e : ExAt x C s.heap) (c : Exc K C) (q : R (.ok (.ret (.ref C))) s) :
    codeAny (model prog w) A (.call (.builtin "getset_descriptor.__get__") ⟨[.builtin "object.__class__", .ref x, tp], []⟩) R s := by
  obtain ⟨hp, gn, dw, tk, os⟩ := s
  have T0 := e.ty (M := model prog w)
  have T1 := looks_mroIn (M := model prog w) X c.hm
  refine codeAny_call_builtin KF.slot_gs.plain KF.entry_gs
    (KF.slot_gs.check _ _ _ _ _ _ _ _ KF.type_class (KF.args_gs _ _ _) ?_)
  unfold Builtin.«getset_descriptor.__get__»
  unfold descrGet
  rw [dga_obj]
  refine wpAny_bind (wpAny_pure ?_)
  unfold descrGetter descrCheckInstance
  unfold descrNameAndClass isInstance
  simp only [KF.owner_class]
  repeat lk
  refine ⟨Code.quiet_builtin _ (by decide +kernel),
    codeAny_builtin KF.entry_class ?_⟩
  unfold Builtin.«object.__class__»
  unfold shownTypeOf
  repeat lk
  exact q

theorem ex_entry {tk : Tok} {P : Value → Shared → Prop} (X : K.In s.heap) (e : ExAt x C s.heap) (c : Exc K C) (q : P (.ref C) s) :
    wpAny (model prog w) A (Builtin.«object.__getattribute__» ⟨[.ref x, .str "__class__" tk], []⟩) (fun fin s' => match fin with | .done (.ret v) => P v s' | _ => False) E s := by
  obtain ⟨hp, gn, dw, t', os⟩ := s
  have T0 := e.ty (M := model prog w)
  have T2 := ex_find (M := model prog w) (x := x) X c.ha c.hn c.ht
  unfold Builtin.«object.__getattribute__»
  refine wpAny_bind (wpAny_pure (wpAny_bind (wpAny_pure (wpAny_bind (T0.at (wpAny_bind (T2.at ?_)))))))
  show wpAny _ _ (holding [Value.builtin "object.__class__"] (call (.builtin "getset_descriptor.__get__") [.builtin "object.__class__", .ref x, .ref C]) >>= ret) _ _ _
  refine wpAny_bind (wpAny_holding (wpAny_call (ex_get X e c ?_)))
  exact wpAny_pure q
theorem ex_call {tk : Tok} {R : Result → Shared → Prop} (X : K.In s.heap) (e : ExAt x C s.heap) (c : Exc K C) (q : R (.ok (.ret (.ref C))) s) :
    codeAny (model prog w) A (.call (.builtin "BaseException.__getattribute__") ⟨[.ref x, .str "__class__" tk], []⟩) R s := by
  refine codeAny_call_builtin PySem.F.attrBase_ValueError.ga.plain PySem.F.entry_bexc_ga ?_
  have k0 : builtinKind "BaseException.__getattribute__" = some .slot := by decide +kernel
  have k1 : splitId "BaseException.__getattribute__" = some ("BaseException", "__getattribute__") := by decide +kernel
  have k2 := PySem.F.args_bexc_ga (.ref x) (.str "__class__" tk)
  have T0 := e.ty (M := model prog w)
  have T1 := looks_mroIn (M := model prog w) X c.hb
  have T4 : Looks (model prog w) s.heap (isInstance (.ref x) (.type "BaseException")) true := T0.andThen T1
  simp only [checkBuiltinCall, k0, k1]
  refine wpAny_bind (T4.here ?_)
  rw [if_neg (by decide)]
  unfold argsOk at k2
  generalize Manifest.signature? "BaseException.__getattribute__" = sg at k2 ⊢
  have go := wpAny_mono (E' := fun e s' => R (.error e) s') (ex_entry (prog := prog) (w := w) (A := A.in1) (tk := tk) (E := fun _ _ => False) (P := fun v s' => R (.ok (.ret v)) s') X e c q) (Q' := fun fin s' => match fin with | .done f => R (.ok f) s' | .again c' => c'.quiet = true ∧ codeAny (model prog w) A c' R s') (fun fin s' z => by
    rcases fin with (_ | _ | _ | _) | _ <;> first | exact z | exact z.elim) fun _ _ z => z.elim
  cases sg with
  | none => exact wpAny_pure go
  | some sig =>
    dsimp only at k2 ⊢
    rw [k2]
    exact wpAny_pure go
theorem ex_class {Q : Option Value → Shared → Prop} (X : K.In s.heap) (e : ExAt x C s.heap) (c : Exc K C) (q : Q (some (.ref C)) { s with toks := s.toks + 1 }) : wpAny (model prog w) A (getAttr? (.ref x) "__class__") Q E s := by
  obtain ⟨hp, gn, dw, tk, os⟩ := s
  have T0 := e.ty (M := model prog w)
  have T1 := looks_findIn (M := model prog w) X c.h1
  have T3 := looks_findIn (M := model prog w) X c.h2
  have B0 := PySem.F.attrBase_ValueError.ga.bind (.ref x)
  unfold getAttr? getAttrBy?
  unfold getAttrBy
  refine wpAny_bind (wpAny_mkText (wpAny_bind (wpAny_attempt
    (wpAny_holding (wpAny_bind (T0.at (wpAny_bind (T1.at ?_))))))))
  show wpAny _ _ (getAttrByItsOwn (.ref x) (.str "__class__" tk) (.ref C) (.builtin "BaseException.__getattribute__") false false) _ _ _
  unfold getAttrByItsOwn
  refine wpAny_bind ((show Looks (model prog w) hp (hookBefore (.ref C)) none from T3).at ?_)
  unfold callGetattribute
  show wpAny _ _ (do match ← (holding [] (boundAndCalled (.builtin "BaseException.__getattribute__") (.ref x) (.str "__class__" tk))).attempt with | .ok v => handedOut v | .error e' => getattributeRaised _ _ _ e' _ _ _) _ _ _
  unfold boundAndCalled
  rw [B0]
  refine wpAny_bind (wpAny_attempt (wpAny_holding (wpAny_bind (wpAny_pure (wpAny_call (ex_call X e c ?_))))))
  exact wpAny_mono (handed_on rfl q) (fun v s'' hv => wpAny_pure hv) fun _ _ z => z
theorem ex_kit (c : Exc K C) : KitX K (.ref x) (.ref C) (ExAt x C) where
  ty := fun _ _ _ e => e.ty
  it := fun _ _ X _ => by
    obtain ⟨cd, hc, _⟩ := any_some c.hd
    unfold clsIn at hc
    split at hc
    · rename_i ho
      intro A' Q' E' s' k q
      unfold isType loadHead
      refine wpAny_bind (wpAny_loadPart (k _ _ (X _ _ ho)) ?_)
      exact wpAny_pure q
    · cases hc
  ne := fun h tp dd its n sl X htp => by
    obtain ⟨cd, hc, _⟩ := any_some c.hd
    refine Bool.eq_false_iff.mpr fun q => ?_
    have z : C = tp := Value.ref.inj (beq_iff_eq.mp q)
    subst z
    unfold clsIn at hc
    split at hc
    · rename_i ho
      cases (X _ _ ho).symm.trans htp
    · cases hc
  ca := fun X e k => ex_class X e c k
end
end L2

set_option Elab.async false
set_option linter.all false
set_option maxRecDepth 100000
set_option maxHeartbeats 400000
namespace L2
open PySem PySem.Spec PyProof.Rows

/-! ### an error that flies -/
def CXE (P : Program) (w : World) : CXT := fun outer H s E e s' => ∃ (x C : Addr) (a0 : Value) (H' : Hp) (B : Heap), e = .ref x ∧ s'.os = s.os ∧ AllBare s'.gens ∧ Heap.FlyingW B outer x (.ref C) a0 s'.heap ∧
  (∀ h', B.StaysIn h' → s'.heap.UpToSlots h' → Un (frs outer) [] H H' s.heap h' ∧ HOk P w H' h') ∧ s.heap.get? x = none ∧ H' x = none ∧ E (.ref C) none H'

theorem ObjOk.is {P : Program} {w : World} {H : Hp} {h : Heap} {a : Addr} {o : HO} (x : ObjOk P w H h a o) : ∃ ob, h.get? a = some ob := by
  cases o with
  | lst xs => obtain ⟨_, _, _, _, e⟩ := x; exact ⟨_, e⟩
  | tup xs => obtain ⟨_, _, _, ob, e, _⟩ := x; exact ⟨_, e⟩
  | dK kvs => obtain ⟨_, _, _, _, ob, _, _, e, _⟩ := x; exact ⟨_, e⟩
  | dT kvs => obtain ⟨_, _, _, _, ob, _, _, e, _⟩ := x; exact ⟨_, e⟩
  | set S n => first | (obtain ⟨ob, e, _⟩ := x; exact ⟨_, e⟩) | (obtain ⟨ob, es, e, _⟩ := x; exact ⟨_, e⟩) | (obtain ⟨ob, es, ep, e, _⟩ := x; exact ⟨_, e⟩) | (obtain ⟨ob, es, ep, z, e, _⟩ := x; exact ⟨_, e⟩)
  | ins C dx fs => obtain ⟨_, _, _, e, _⟩ := x; exact ⟨_, e⟩
  | own y => exact x
  | xd fs => obtain ⟨_, ⟨ob, _, _, e, _⟩, _⟩ := x; exact ⟨_, e⟩
  | met f y => exact ⟨_, x⟩
  | rng lo hi => obtain ⟨_, _, _, e⟩ := x; exact ⟨_, e⟩
  | frz o u => exact ⟨_, x.1⟩
  | tbl ps => exact ⟨_, x⟩
  | ext φ => exact x.2.1

section
variable {P : Program} {w : World} {K : PySem.W.Frag} {mg : Str → Option Value} {base : Heap} {N : List Str} {qual : Str} {scope : Scope} {f : Addr} {cd : Value} {A : Around} {outer : List Env} {s : Shared} {H : Hp} {E : XK}
/-- a new error leaves the def -/
theorem leaves_made {pins : List (Addr × Obj)} {σ : St} {H1 : Hp} {s1 : Shared} {h' : Heap} {x C : Addr} {args : List Value}
    (I : Inv (cxOf (CXE P w) P w K mg base N qual scope f cd A outer s H E) pins σ H1 s1) (hm : Heap.MadeExcOf s1.heap h' x (.ref C) args) (q : E (.ref C) none H1) :
    (cxOf (CXE P w) P w K mg base N qual scope f cd A outer s H E).xe (.ref x) { s1 with heap := h' } := by
  have hst : ∀ b ∈ frs (envOfC qual scope s.heap.objs.size f cd :: outer), H1 b = none := I.stkFree
  have hin : ∀ env ∈ (envOfC qual scope s.heap.objs.size f cd :: outer), ∀ b, env.frame = some b → b ∈ frs (envOfC qual scope s.heap.objs.size f cd :: outer) := fun env he b hb => List.mem_filterMap.mpr ⟨env, he, hb⟩
  have FF : s1.heap.FunFrames base (envOfC qual scope s.heap.objs.size f cd :: outer) := I.stack
  have old : ∀ b o, s.heap.get? b = some o → b ≠ s.heap.objs.size := fun b o e => Nat.ne_of_lt (Heap.lt_size e)
  have sub : ∀ b, b ∈ frs (envOfC qual scope s.heap.objs.size f cd :: outer) → b = s.heap.objs.size ∨ b ∈ frs outer := fun b hb => List.mem_cons.mp (I.stkSub b hb)
  refine wpAny_leaves_madeW (base := PySem.W.hideAll s1.heap (frs (envOfC qual scope s.heap.objs.size f cd :: outer))) I.ok.frames rfl (fun b o e => PySem.W.of_hideAll _ e) (PySem.W.funFrames_hide FF hin) hm fun h2 t f1 f2 f3 f4 => ?_
  refine ⟨x, C, .ref t, H1, _, rfl, I.os, I.bare, f1, fun h3 st sm => ?_, ?_, ?_, q⟩
  · have here : ∀ b o, s1.heap.get? b = some o → b ∉ frs (envOfC qual scope s.heap.objs.size f cd :: outer) → h3.get? b = some o := fun b o e n => st b o (PySem.W.hideAll_get _ e n)
    have fram : ∀ b o, s1.heap.get? b = some o → b ∈ frs (envOfC qual scope s.heap.objs.size f cd :: outer) → ∃ sl, h3.get? b = some { o with slots := sl } := fun b o e m => by
      obtain ⟨_, o', e', nf⟩ := FF.mem m
      have z : o' = o := Option.some.inj (e'.symm.trans e)
      subst z
      obtain ⟨sl, e2⟩ := f4 b o' (hm.keeps b o' e) nf
      obtain ⟨sl', e3⟩ := sm b _ e2 nf
      exact ⟨sl', e3⟩
    refine ⟨⟨fun b o e n hb hx => ?_, fun b o e n hb hx => ?_, fun b o e n hx => I.base.free b o e n hx, fun b o e hx => ?_, I.base.tups, I.base.frzs, I.base.tbls⟩, fun a u e => ?_⟩
    · exact here b o (I.base.keep b o e n hb hx) fun z => (sub b z).elim (old b o e) hb
    · obtain ⟨sl, e1⟩ := I.base.slot b o e n hb hx
      have mem : b ∈ frs (envOfC qual scope s.heap.objs.size f cd :: outer) := by
        show b ∈ List.filterMap _ _
        rw [List.filterMap_cons]
        exact List.mem_cons_of_mem _ hb
      obtain ⟨sl', e2⟩ := fram b _ e1 mem
      exact ⟨sl', e2⟩
    · obtain ⟨o', e1⟩ := I.base.there b o e hx
      by_cases mem : b ∈ frs (envOfC qual scope s.heap.objs.size f cd :: outer)
      · obtain ⟨sl, e2⟩ := fram b o' e1 mem
        exact ⟨_, e2⟩
      · exact ⟨o', here b o' e1 mem⟩
    · refine (I.hok a u e).stay (fun b ob hb eb => here b ob eb fun z => ?_) (fun _ z => z) (fun _ _ z => z)
      have := hst b z
      rcases hb with rfl | hb
      · rw [e] at this; cases this
      · rw [hb] at this; cases this
  · cases z : s.heap.get? x with
    | none => rfl
    | some o =>
      obtain ⟨o', e1⟩ := I.base.there x o z (fun h => nomatch h)
      have := hm.new
      rw [e1] at this; cases this
  · cases z : H1 x with
    | none => rfl
    | some o =>
      obtain ⟨ob, e1⟩ := (I.hok x o z).is
      have := hm.new
      rw [e1] at this; cases this
end
/-! ### raise C(..) -/
theorem exc_obj {K : PySem.W.Frag} {h : Heap} {C : Addr} (X : K.In h) (c : Exc K C) : ∃ tl N nm q bs hdct sn sub ab col dd k0 k1 k2 k3 k5 mN,
    h.get? C = some (excClassObj nm q C N bs tl hdct sn sub ab col dd k0 k1 k2 k3 k5 "ValueError.__new__") ∧ h.Ns N mN ∧ mN "__init__" = none ∧ OwnTail h VEB tl := by
  have q := c.ex
  unfold PySem.W.excIn at q
  split at q
  · rename_i dd cd sl ho
    split at q
    · rename_i C' bm k0 k1 k2 k3 n k5 hm hs
      simp only [Bool.and_eq_true, beq_iff_eq, Bool.not_eq_true'] at q
      obtain ⟨⟨⟨⟨⟨z1, z2⟩, hdel⟩, ht⟩, hok⟩, hni⟩ := q
      subst z1 z2
      obtain ⟨nm, bs, mro, ns, qn, hdc, sn, sub, ab, col, del⟩ := cd
      dsimp only at hm hdel hok hni
      subst hm hdel
      have hsl : sl = #[k0, k1, k2, k3, some (.builtin "ValueError.__new__"), k5] := by
        cases sl with
        | mk l => simp only at hs; rw [hs]
      subst hsl
      refine ⟨bm, ns, nm, qn, bs, hdc, sn, sub, ab, col, dd, k0, k1, k2, k3, k5, h.nsMap ns, X _ _ ho, ?_, ?_, PySem.W.tail_of_in X ht⟩
      · exact .of_isNs (PySem.W.isNs_of_in X hok)
      · exact PySem.W.nsMap_none_of_in X hok hni
    · cases q
  · cases q
/-- the context takes a new error of the class at C -/
def Takes (X : Cx) (E : XK) : Prop := ∀ (pins : List (Addr × Obj)) (σ : St) (H : Hp) (s : Shared) (h' : Heap) (x C : Addr) (args : List Value), Inv X pins σ H s → Heap.MadeExcOf s.heap h' x (.ref C) args → E (.ref C) none H → X.xe (.ref x) { s with heap := h' }
def tRaise (C : Addr) (E : XK) (t : TA) : TS := fun _ σ H => t σ H fun vs H1 => vs.length ≤ sizeLine ∧ E (.ref C) none H1
theorem ps_raise {X : Cx} {x : Str} {C : Addr} {E : XK} {np cpos pos : Pos} {e : Expr} {es : List Expr} {t : TA} (tk : Takes X E) (hc : X.calm = true) (c : Exc X.K C) (hg : Gl X x) (hm : X.mg x = some (.ref C)) (ha : PA X (e :: es) t)
    (hdb : (x == ("__debug__" : Str)) = false := by decide) (he : starEach (e :: es) X.env = (false, eval e X.env) :: starEach es X.env := by rfl) (hpl : (backTo cpos (starEach es X.env)).any (·.1) = false := by rfl) :
    PS X (.Raise (some (.Call (.Name x np) (e :: es) [] cpos)) none pos) (tRaise C E t) := by
  intro pins s σ H D I h
  obtain ⟨tl, N, nm, q, bs, hdct, sn, sub, ab, col, dd, k0, k1, k2, k3, k5, mN, hC, hN, hni, T⟩ := exc_obj I.ok.mod.kin c
  refine wpAny_Raise_call_subT (C := C) (bm := tl) (mN := mN) (N := N) (nm := nm) (q := q) (bs := bs) (hdct := hdct) (sn := sn) (sub := sub) (ab := ab) (col := col) (dd := dd) (k0 := k0) (k1 := k1) (k2 := k2) (k3 := k3) (k5 := k5) PySem.F.excBase_ValueError (T.hasType PySem.F.excBase_ValueError.hasBase) (I.ok.hd hc) (by rw [he]; show (false || (backTo cpos (starEach es X.env)).any (·.1)) = false; rw [hpl]; rfl) hni (ld_glob I hg hm ⟨rfl, ?_⟩ hdb)
  have z := ha cpos pins s σ H _ I h
  rw [he] at z ⊢
  refine Calls.evalArgs_plain (thn z fun us s1 ⟨vs, H1, I1, r, hl, qe⟩ => ?_)
  have hv : us.length ≤ sizeLine := by rw [← r.length]; exact hl
  exact ⟨rfl, hv, I1.bk _ _ hC, hN.keeps I1.bk, T.keeps I1.bk, fun h' y hm' => tk pins σ H1 s1 h' y C us I1 hm' qe⟩

/-! ### calls of a def that may raise -/
def HasX (P : Program) (w : World) (K : PySem.W.Frag) (mg : Str → Option Value) (base : Heap) (x : Str) (k : Nat) (ps : List Str) (sp : Sp) : Prop :=
  ∃ (f : Addr) (fd : FuncData), FnOk P w K mg base (CXE P w) k f fd ps sp ∧ mg x = some (.ref f) ∧ PySem.W.keepIn K (.ref f) = true ∧ Binds K fd ps []
/-- an error at this place: Inv as it was ahead of the call, and how it flies -/
def XP (X : Cx) (pins : List (Addr × Obj)) (σ : St) (E : XK) (e : Value) (s' : Shared) : Prop := ∃ H1 s1, Inv X pins σ H1 s1 ∧ CXE X.prog X.w X.stack H1 s1 E e s'
theorem pe_callX {X : Cx} {x : Str} {k n : Nat} {ps : List Str} {sp : Sp} {p pos : Pos} {e : Expr} {es : List Expr} {t : TA} {E : XK} (F : HasX X.prog X.w X.K X.mg X.base x k ps sp) (hxe : ∀ e s, ¬ X.xe e s) (hr : Room n X.A) (hg : Gl X x) (ha : PA X (e :: es) t)
    (pins : List (Addr × Obj)) (s : Shared) (σ : St) (H : Hp) (Q : VK) (I : Inv X pins σ H s) (h : tCall sp [] E t σ H Q) (hk : k ≤ n := by decide)
    (hdb : (x == ("__debug__" : Str)) = false := by decide) (he : starEach (e :: es) X.env = (false, eval e X.env) :: starEach es X.env := by rfl) (hpl : (backTo pos (starEach es X.env)).any (·.1) = false := by rfl) :
    wpAny (model X.prog X.w) X.A (eval (.Call (.Name x p) (e :: es) [] pos) X.env) (EP X pins σ Q) (XP X pins σ E) s := by
  obtain ⟨f, fd, G, hm, kp, hb⟩ := F
  refine wpAny_Call_Name_kw (ld_glob I hg hm ?_ hdb)
  refine PySem.W.callWith_K (h₀ := X.base) I.ok.mod.kin kp (wpAny_mono (ha pos pins s σ H _ I h) (fun us s1 ⟨vs, H1, I1, r, q⟩ => ⟨I1.kIn, ?_⟩) fun e s z => (hxe e s z).elim) he hpl
  have r2 : Vals (vs ++ []) (us ++ []) := r.append .nil
  have hl : (us ++ []).length = ps.length := by rw [← r2.length]; exact G.len _ _ _ _ q
  refine wpAny_call (codeAny_mono (G.run X.A X.stack s1 H1 ⟨us, []⟩ (us ++ []) (vs ++ []) Q E (hr.mono hk) I1.env0 (hb s1 us I1.kIn hl) r2 q) fun r s' hq => ?_)
  cases r with
  | error e => exact ⟨H1, s1, I1, hq⟩
  | ok fl =>
    cases fl with
    | ret u => exact I1.after hq
    | next => exact hq.elim
    | brk => exact hq.elim
    | cont => exact hq.elim

/-! ### try: f(..); except C as n: a suite that returns -/
/-- within an except suite -/
def Cx.inExc (X : Cx) (x : Addr) : Cx := { X with A := X.A.mark (some (.ref x)), calm := false, xe := fun _ _ => False }
section
variable {X : Cx} {pins : List (Addr × Obj)} {σ : St} {H : Hp} {s : Shared}
theorem Cx.Ok.inExc (ok : X.Ok) (x : Addr) : (X.inExc x).Ok :=
  ⟨ok.mod, ok.kind, ok.glob, ok.blt, ok.above, ok.inj, ok.has, ok.cab, (fun z => nomatch z), ok.frames, ok.stk, ok.exf, ok.bs, ok.bsz, ok.noex, ok.exfs, ok.funs, ok.frf⟩
theorem Inv.inExc (I : Inv X pins σ H s) (x : Addr) : Inv (X.inExc x) pins σ H s := ⟨I.ok.inExc x, I.os, I.bare, I.base, I.loc, I.cell, I.free, I.freeC, I.pin, I.hok, I.len⟩
theorem Inv.outExc {x : Addr} (ok : X.Ok) (I : Inv (X.inExc x) pins σ H s) : Inv X pins σ H s := ⟨ok, I.os, I.bare, I.base, I.loc, I.cell, I.free, I.freeC, I.pin, I.hok, I.len⟩
/-- an untracked object that the entry's heap did not have is tracked from here on -/
theorem Inv.track2 {a : Addr} {o : HO} (I : Inv X pins σ H s) (f0 : H a = none) (f1 : a ≠ X.env.locals) (f3 : ∀ ob, X.s₀.heap.get? a ≠ some ob) (f4 : ∀ x c, X.env.cells.lookup x = some c → c ≠ a) (f5 : ∀ p ∈ X.pn ++ pins, p.1 ≠ a)
    (new : ObjOk X.prog X.w (upd H a o) s.heap a o) : Inv X pins σ (upd H a o) s := by
  have up : ∀ b, H b = none → b ≠ a → upd H a o b = none := fun b e n => by rw [upd_ne n]; exact e
  have st : ∀ {b u}, H b = some u → upd H a o b = some u := fun {b u} e => by rw [upd_ne (ne_of_none e f0)]; exact e
  refine ⟨I.ok, I.os, I.bare, ⟨I.base.keep, I.base.slot, fun b ob e n hx => up b (I.base.free b ob e n hx) (fun z => f3 ob (z ▸ e)), I.base.there, fun b xs e => st (I.base.tups b xs e), fun b ob u e => st (I.base.frzs b ob u e), fun b ps e => ?_⟩, I.loc, I.cell, up _ I.free (Ne.symm f1), fun x c e => up c (I.freeC x c e) (f4 x c e), fun p hp => ?_, I.hok.track f0 new, I.len⟩
  · obtain ⟨m, q⟩ := I.base.tbls b ps e
    exact ⟨m, st q⟩
  · obtain ⟨e, n, r⟩ := I.pin p hp
    exact ⟨e, up _ n (f5 p hp), r⟩
/-- the frame's names have changed: none is known -/
theorem Inv.renamed {h' : Heap} {m' : Str → Option Value} {t' : Nat} (I : Inv X pins σ H s) (hs : Heap.SameBut X.env.locals s.heap h') (hn : h'.Ns X.env.locals m') : Inv X pins (List.replicate σ.length none) H { s with heap := h', toks := t' } := by
  have ne0 : ∀ b o, X.s₀.heap.get? b = some o → b ≠ X.env.locals := fun b o e => Nat.ne_of_lt (Nat.lt_of_lt_of_le (Heap.lt_size e) I.ok.above)
  have at' : ∀ b o, b ≠ X.env.locals → s.heap.get? b = some o → h'.get? b = some o := fun b o n e => (hs.2 b n).trans e
  refine ⟨I.ok, I.os, I.bare, ⟨fun b o e n hb hx => at' b o (ne0 b o e) (I.base.keep b o e n hb hx), fun b o e n hb hx => ?_, I.base.free, fun b o e hx => ?_, I.base.tups, I.base.frzs, I.base.tbls⟩, ⟨m', hn, fun i x v _ e _ => ?_⟩, fun x c e => ?_, I.free, I.freeC, fun p hp => ?_, fun a u e => ?_, ?_⟩
  · obtain ⟨sl, e1⟩ := I.base.slot b o e n hb hx
    exact ⟨sl, at' b _ (ne0 b o e) e1⟩
  · obtain ⟨o', e1⟩ := I.base.there b o e hx
    exact ⟨o', at' b o' (ne0 b o e) e1⟩
  · rw [List.getElem?_replicate] at e
    split at e <;> simp at e
  · obtain ⟨v, o, ho, hd⟩ := I.cell x c e
    exact ⟨v, o, at' c o (I.cne x c e) ho, hd⟩
  · obtain ⟨e, n, ne, r⟩ := I.pin p hp
    exact ⟨at' _ _ ne e, n, ne, r⟩
  · refine (I.hok a u e).stay (fun b ob hb eb => at' b ob (fun z => ?_) eb) (fun _ z => z) (fun _ _ z => z)
    have := I.free
    rw [← z] at this
    rcases hb with rfl | hb
    · rw [e] at this; cases this
    · rw [hb] at this; cases this
  · rw [List.length_replicate]; exact I.len
end
def tTryX (K : PySem.W.Frag) (sp : Sp) (C' : Addr) (i : Nat) (t : TA) (ts : TS) : TS := fun D σ H => t σ H fun vs H1 => sp (vs ++ []) H1 (fun _ H2 => D.nx σ H2) (fun cls _ H2 => ∃ C, cls = .ref C ∧ Exc K C ∧ PySem.W.exmOne K (.ref C) (.ref C') = some true ∧
  ∀ x, H2 x = none → ts { nx := fun _ _ => False, rt := D.rt } (σ.set i (some (.ref x))) (upd H2 x (.ext (ExAt x C))))
theorem ps_tryX {X : Cx} {x cx nx : Str} {k n i : Nat} {ps : List Str} {sp : Sp} {p np cpos epos hpos pos : Pos} {e : Expr} {es : List Expr} {t : TA} {ts : TS} {C' : Addr} {b₀ : Stmt} {suite : List Stmt}
    (F : HasX X.prog X.w X.K X.mg X.base x k ps sp) (hxe : ∀ e s, ¬ X.xe e s) (hst : X.stack = X.env :: X.outer) (hex : X.ex = []) (hfr : X.env.frame = some X.env.locals) (hr : Room n X.A) (hg : Gl X x) (ha : PA X (e :: es) t)
    (hgc : Gl X cx) (hmc : X.mg cx = some (.ref C')) (hN : X.N.Nodup) (hi : X.N[i]? = some nx) (hnx : X.env.scope.names.lookup nx = some .local) (hs : ∀ y, PSs (X.inExc y) (b₀ :: suite) ts)
    (hk : k ≤ n := by decide) (hdb : (x == ("__debug__" : Str)) = false := by decide) (hdc : (cx == ("__debug__" : Str)) = false := by decide) (he : starEach (e :: es) X.env = (false, eval e X.env) :: starEach es X.env := by rfl) (hpl : (backTo cpos (starEach es X.env)).any (·.1) = false := by rfl)
    (hsw : swapsWith (.Call (.Name x p) (e :: es) [] cpos) none epos.line X.env = pure false := by rfl) :
    PS X (.Try [.Expr (.Call (.Name x p) (e :: es) [] cpos) epos] [.ExceptHandler (some (.Name cx np)) (some nx) (b₀ :: suite) hpos] [] [] pos) (tTryX X.K sp C' i t ts) := by
  intro pins s σ H D I h
  have hkn : X.env.kindOf nx = some .local := hnx
  refine wpAny_Try_except (wpAny_execs_cons (wpAny_Expr_any (wpAny_mono (pe_callX F hxe hr hg ha pins s σ H _ I h hk hdb he hpl) (fun v s1 ⟨y, H1, I1, r1, q1⟩ => wpAny_execs_nil (wpAny_execs_nil ⟨σ, H1, I1, q1⟩)) fun er s' ⟨H1, s1, I1, fl⟩ => ?_) I.quiet hsw))
  obtain ⟨y, C, a0, H2, B, rfl, hos, hbare, fly, clo, hy0, hy2, C0, z0, ex, exm, q⟩ := fl
  cases z0
  rw [hst] at fly
  refine wpAny_looks_onW (I.ok.frames.trans (congrArg some hst)) hfr fly fun h1 held sm1 => ?_
  refine wpAny_landsW held fun h2 fly2 sm2 => ?_
  have cl2 := clo h2 fly2.1 (sm1.trans sm2)
  have I2 : Inv X pins σ H2 { s' with heap := h2 } := I1.call' (s' := { s' with heap := h2 }) hos cl2.1 cl2.2 hbare (fun b z => nomatch z)
  have isx : ∀ {h : Heap}, Heap.FlyingW B (X.env :: X.outer) y (.ref C) a0 h → ExAt y C h := fun {h} fl => by
    obtain ⟨_, _, _, oe, vs, _, _, _, h1, ⟨h2, _⟩, h3, _⟩ := fl
    exact ⟨oe, h1, h2, vs, h3⟩
  have ney : ∀ {b : Addr} {o : Obj}, s1.heap.get? b = some o → b ≠ y := fun {b o} e z => by rw [z, hy0] at e; cases e
  refine wpAny_handleBy_cons (codeAny_handlers_test (ld_glob (I2.inExc y) hgc hmc ?_ hdc)) (by intro q; cases q)
  refine (PySem.W.exm_one (M := model X.prog X.w) I2.kIn (isx fly2).ty exm).here ?_
  refine codeAny_handlers_suite_as (lands_againW fly2 fun h3 fly3 sm3 => ?_)
  have cl3 := clo h3 fly3.1 ((sm1.trans sm2).trans sm3)
  have I3 : Inv X pins σ H2 { s' with heap := h3 } := I1.call' (s' := { s' with heap := h3 }) hos cl3.1 cl3.2 hbare (fun b z => nomatch z)
  have I4 : Inv X pins σ (upd H2 y (.ext (ExAt y C))) { s' with heap := h3 } := by
    refine I3.track2 hy2 (fun z => ?_) (fun ob e => ?_) (fun v c e z => ?_) (fun p hp z => ?_) ⟨isx fly3, (isx fly3).imp fun _ z => z.1, fun _ _ z k => z.keep k⟩
    · obtain ⟨m, ⟨o, _, _, ho, _⟩, _⟩ := I1.loc
      exact ney ho z.symm
    · obtain ⟨o', e1⟩ := I1.base.there y ob e (by rw [hex]; exact fun z => nomatch z)
      exact ney e1 rfl
    · obtain ⟨_, o, ho, _⟩ := I1.cell v c e
      exact ney ho z
    · exact ney (I1.pin p hp).1 z
  refine store_ok2 I4 hN hi (.inl hnx) (v := .ref y) rfl (fun s5 I5 _ => ?_) (.inr hnx)
  refine wpAny_mono (hs y pins s5 _ _ _ (I5.inExc y) (q y hy2)) (fun f s6 sp6 => ?_) fun _ _ z => z.elim
  have hp : (X.env.scope.kind == .class || (X.env.scope.kind == .module && X.env.locals != X.env.globals)) = false := by rw [I.ok.kind]; rfl
  cases f with
  | ret u =>
    obtain ⟨v, σ6, H6, I6, rv, qv⟩ := sp6
    obtain ⟨m, hn6, _⟩ := id I6.loc
    exact wpAny_nameGoes hkn hn6 hp fun h7 m7 hn7 hs7 => ⟨v, _, H6, (Inv.outExc I.ok I6).renamed hs7 hn7, rv, qv⟩
  | next => obtain ⟨_, _, _, z⟩ := sp6; exact z.elim
  | brk => obtain ⟨_, _, _, z⟩ := sp6; exact z.elim
  | cont => obtain ⟨_, _, _, z⟩ := sp6; exact z.elim
end L2
namespace L2
open PySem PySem.Spec PyProof.Rows
/-! ### isinstance of an error that was taken -/
section
variable {X : Cx} {H : Hp} {Q : VK} {K : PySem.W.Frag}
def rIsiX (K : PySem.W.Frag) : List V → Hp → VK → Prop := fun xs H Q => ∃ x C c b, xs = [.ref x, c] ∧ H x = some (.ext (ExAt x C)) ∧ Exc K C ∧ ((∃ T, c = .ty T) ∨ ∃ D, c = .ref D) ∧ PySem.W.kitOne K (.ref C) (clsV c) = some b ∧ Q (.bl b) H
theorem call_isiX : CallR X (.builtin "isinstance") (rIsiX X.K) := by
  intro pins s σ H xs us Q I r h
  obtain ⟨x, C, c, b, rfl, hx, ex, hc, e, q⟩ := h
  obtain ⟨v, w, rfl, rx, rw'⟩ := vals2 r
  cases rx
  have : w = clsV c := by
    rcases hc with ⟨T, rfl⟩ | ⟨D, rfl⟩
    · exact rw'
    · exact rw'
  subst this
  exact PySem.W.kia_one (ex_kit ex) I.kIn (I.hok x _ hx).1 e (fun z => nomatch z) fun tk => ⟨.bl b, H, I.tok _, rfl, q⟩
theorem r_isiX {x C : Addr} {c : V} {b : Bool} (hx : H x = some (.ext (ExAt x C))) (ex : Exc K C) (hc : (∃ T, c = .ty T) ∨ ∃ D, c = .ref D) (e : PySem.W.kitOne K (.ref C) (clsV c) = some b) (q : Q (.bl b) H) : rIsiX K [.ref x, c] H Q := ⟨x, C, c, b, rfl, hx, ex, hc, e, q⟩
theorem vals_refs : ∀ {Ds : List Addr} {us : List Value}, Vals (Ds.map V.ref) us → us = Ds.map Value.ref
  | [], _, .nil => rfl
  | D :: Ds, _, .cons r t => by cases r; rw [vals_refs t]; rfl
def rIsiT (K : PySem.W.Frag) : List V → Hp → VK → Prop := fun xs H Q => ∃ (x C p : Addr) (Ds : List Addr) (b : Bool), xs = [.ref x, .ref p] ∧ H x = some (.ext (ExAt x C)) ∧ Exc K C ∧ H p = some (.tup (Ds.map V.ref)) ∧ PySem.W.kitAny K (.ref C) (Ds.map Value.ref) = some b ∧ Q (.bl b) H
theorem call_isiT : CallR X (.builtin "isinstance") (rIsiT X.K) := by
  intro pins s σ H xs us Q I r h
  obtain ⟨x, C, p, Ds, b, rfl, hx, ex, hp, e, q⟩ := h
  obtain ⟨v, w, rfl, rx, rp⟩ := vals2 r
  cases rx; cases rp
  obtain ⟨_, its, ri, o, ho, hc, n, hd⟩ := I.hok p _ hp
  have := vals_refs ri
  subst this
  obtain ⟨oc, od, odt, osl⟩ := o
  simp only at hc hd
  subst hc hd
  exact PySem.W.kia_tup (ex_kit ex) I.kIn (I.hok x _ hx).1 ho e (fun z => nomatch z) fun tk => ⟨.bl b, H, I.tok _, rfl, q⟩
theorem r_isiT {x C p : Addr} {Ds : List Addr} {b : Bool} (hx : H x = some (.ext (ExAt x C))) (ex : Exc K C) (hp : H p = some (.tup (Ds.map V.ref))) (e : PySem.W.kitAny K (.ref C) (Ds.map Value.ref) = some b) (q : Q (.bl b) H) : rIsiT K [.ref x, .ref p] H Q := ⟨x, C, p, Ds, b, rfl, hx, ex, hp, e, q⟩
/-- a def that may raise: its body as a term of rules, and the reading of that term -/
theorem Fun.okX {P : Program} {w : World} {K : PySem.W.Frag} {mg : Str → Option Value} {base : Heap} {x qual : Str} {st : Stmt} {f : Addr} {fd : FuncData} {N ps : List Str} {k : Nat} {sp : Sp} (F : Fun K x qual st f fd) (S : FnScope N ps (defScope st)) (len : ∀ vs H Q E, sp vs H Q E → vs.length = ps.length)
    (hbody : ∀ (cdv : Value) (A : Around) (outer : List Env) (s : Shared) (H : Hp) (vs : List V) (Q : VK) (E : XK), Room k (A.deeper (envOfC qual (defScope st) s.heap.objs.size f cdv)) → sp vs H Q E →
      Takes (cxOf (CXE P w) P w K mg base N qual (defScope st) f cdv A outer s H E) E → ∃ t, PSs (cxOf (CXE P w) P w K mg base N qual (defScope st) f cdv A outer s H E) (defBody st) t ∧ t { nx := fun _ H' => Q .non H', rt := Q } (start N vs) H) : FnOk P w K mg base (CXE P w) (k + 1) f fd ps sp := by
  obtain ⟨oc, od, kV, doc, pm, an, cdv, ct, osl, rfl, lk, hcd⟩ := F.ex
  exact fn_of lk hcd S len fun A outer s H vs Q E hr hsp => hbody cdv A outer s H vs Q E hr hsp fun pins σ H s h' x C args I hm q => leaves_made I hm q
/-- where it is promised that nothing is raised -/
theorem FnOk.calm {P : Program} {w : World} {K : PySem.W.Frag} {mg : Str → Option Value} {base : Heap} {k : Nat} {f : Addr} {fd : FuncData} {ps : List Str} {sp : Sp} (F : FnOk P w K mg base (CXE P w) k f fd ps sp) : FnOk P w K mg base CX0 k f fd ps (fun vs H Q _ => sp vs H Q E0) :=
  ⟨fun vs H Q _ h => F.len vs H Q E0 h, fun A outer s H args us vs Q _ hr he hb hv hs => codeAny_mono (F.run A outer s H args us vs Q E0 hr he hb hv hs) fun r s' hq => by
    cases r with
    | ok fl => cases fl <;> exact hq
    | error e =>
      obtain ⟨_, _, _, _, _, _, _, _, _, _, _, _, z⟩ := hq
      exact z.elim⟩
end
end L2

set_option Elab.async false
set_option linter.all false
set_option maxRecDepth 100000
set_option maxHeartbeats 400000
namespace L2
open PySem PySem.Spec PyProof.Rows
/-! ### dicts that are only asked for their kind -/
section
variable {X : Cx} {H : Hp} {Q : VK} {K : PySem.W.Frag} {σ : St} {pos p1 p2 : Pos} {n1 n2 : Nat} {a b : Int}
def dctO (p : Addr) : HO := .ext (PySem.W.KitAt p "dict")
theorem dct_ok {P : Program} {w : World} {H : Hp} {h : Heap} {p : Addr} {o : Obj} (e : h.get? p = some o) (c : o.cls = .type "dict") : ObjOk P w H h p (dctO p) :=
  ⟨⟨o, e, c⟩, ⟨o, e⟩, fun _ _ ⟨o, x, y⟩ k => ⟨o, k o x, y⟩⟩
def tDct : TE := fun _ H Q => ∀ p H', Same H H' → H' p = some (dctO p) → Q (.ref p) H'
theorem pe_dct0 : PE X (.Dict [] [] pos) tDct := fun pins s σ H Q I h =>
  wpAny_Dict_empty ⟨.ref s.heap.objs.size, _, I.laid (a := s.heap.objs.size) (o := dctO s.heap.objs.size) (t' := s.toks) (fun _ _ q => Heap.get?_push_of_some _ q) (Nat.le_refl _) (dct_ok (Heap.get?_push_size _ rfl) rfl), rfl, h _ _ (same_new I.fresh _) upd_same⟩
theorem pe_dct1 : PE X (.Dict [some (.Constant (.int a) n1 p1)] [.Constant (.int b) n2 p2] pos) tDct := by
  intro pins s σ H Q I q
  refine wpAny_Dict_walk (knd := mixKind X.prog X.w) rfl rfl (by intro z; cases z) (by simp) (pairTrees_cons_walk (wpAny_Constant_int (wpAny_Constant_int (pairTrees_nil_walk ?_))))
  refine ⟨[(Sum.inl a, _)], ⟨mixKind_int _ _ _ _, rfl, trivial⟩, Heap.DictOf.new _, fun h' dd hs => ?_⟩
  obtain ⟨o, es, ep, ho, hx, _⟩ := dd
  refine ⟨.ref s.heap.objs.size, _, I.laid (h' := h') (a := s.heap.objs.size) (o := dctO s.heap.objs.size) (fun b u e => ?_) (Nat.le_refl _) (dct_ok ho hx.1), rfl, q _ _ (same_new I.fresh _) upd_same⟩
  exact (hs.2 b (Nat.ne_of_lt (Heap.lt_size e))).trans (Heap.get?_push_of_some _ e)
theorem r_dct (h : ∀ p H', Same H H' → H' p = some (dctO p) → Q (.ref p) H') : tDct σ H Q := h
/-! ### things that are no ints -/
inductive Odd (H : Hp) : V → Prop where
  | non : Odd H .non
  | bl (b : Bool) : Odd H (.bl b)
  | str (x : Str) : Odd H (.str x)
  | lst {p : Addr} {xs : List V} (e : H p = some (.lst xs)) : Odd H (.ref p)
  | tup {p : Addr} {xs : List V} (e : H p = some (.tup xs)) : Odd H (.ref p)
  | dct {p : Addr} (e : H p = some (dctO p)) : Odd H (.ref p)
theorem Odd.same {H H' : Hp} {v : V} (h : Odd H v) (g : Same H H') : Odd H' v := by
  cases h with
  | non => exact .non
  | bl b => exact .bl b
  | str x => exact .str x
  | lst e => exact .lst (g _ _ e)
  | tup e => exact .tup (g _ _ e)
  | dct e => exact .dct (g _ _ e)
/-- isinstance for these too -/
def rIsiO (K : PySem.W.Frag) : List V → Hp → VK → Prop := fun xs H Q => rIsi K xs H Q ∨ ∃ p T b, xs = [.ref p, .ty T] ∧ H p = some (dctO p) ∧ PySem.W.kitOne K (.type "dict") (.type T) = some b ∧ Q (.bl b) H
theorem call_isiO : CallR X (.builtin "isinstance") (rIsiO X.K) := by
  refine CallR.or call_isi ?_
  intro pins s σ H xs us Q I r h
  obtain ⟨p, T, b, rfl, hp, e, q⟩ := h
  obtain ⟨v, w, rfl, rx, rw'⟩ := vals2 r
  cases rx; cases rw'
  exact PySem.W.kia_one PySem.W.kitx_dict I.kIn (I.hok p _ hp).1 e (fun z => nomatch z) fun tk => ⟨.bl b, H, I.tok _, rfl, q⟩
theorem r_isiO_int {i : Int} {T : String} {b : Bool} (e : PySem.W.kitOne K (.type "int") (.type T) = some b) (q : Q (.bl b) H) : rIsiO K [.int i, .ty T] H Q := .inl (r_isi (.int i) ⟨_, .inl rfl⟩ e q)
theorem r_isiO_bl {i : Bool} {T : String} {b : Bool} (e : PySem.W.kitOne K (.type "bool") (.type T) = some b) (q : Q (.bl b) H) : rIsiO K [.bl i, .ty T] H Q := .inl (r_isi (.bl i) ⟨_, .inl rfl⟩ e q)
theorem r_isiO_str {x : Str} {T : String} {b : Bool} (e : PySem.W.kitOne K (.type "str") (.type T) = some b) (q : Q (.bl b) H) : rIsiO K [.str x, .ty T] H Q := .inl (r_isi (.str x) ⟨_, .inl rfl⟩ e q)
theorem r_isiO_non {T : String} {b : Bool} (e : PySem.W.kitOne K (.type "NoneType") (.type T) = some b) (q : Q (.bl b) H) : rIsiO K [.non, .ty T] H Q := .inl (r_isi .non ⟨_, .inl rfl⟩ e q)
theorem r_isiO_lst {p : Addr} {xs : List V} {T : String} {b : Bool} (h : H p = some (.lst xs)) (e : PySem.W.kitOne K (.type "list") (.type T) = some b) (q : Q (.bl b) H) : rIsiO K [.ref p, .ty T] H Q := .inl (r_isi (.lst h) ⟨_, .inl rfl⟩ e q)
theorem r_isiO_tup {p : Addr} {xs : List V} {T : String} {b : Bool} (h : H p = some (.tup xs)) (e : PySem.W.kitOne K (.type "tuple") (.type T) = some b) (q : Q (.bl b) H) : rIsiO K [.ref p, .ty T] H Q := .inl (r_isi (.tup h) ⟨_, .inl rfl⟩ e q)
theorem r_isiO_dct {p : Addr} {T : String} {b : Bool} (h : H p = some (dctO p)) (e : PySem.W.kitOne K (.type "dict") (.type T) = some b) (q : Q (.bl b) H) : rIsiO K [.ref p, .ty T] H Q := .inr ⟨p, T, b, rfl, h, e, q⟩
/-- not an int, as isinstance sees it: a bool is one -/
theorem Odd.int {v : V} (h : Odd H v) (q1 : Q (.bl true) H) (q0 : Q (.bl false) H) : rIsiO K [v, .ty "int"] H Q := by
  cases h with
  | non => exact r_isiO_non (kit_NoneType_int K) q0
  | bl b => exact r_isiO_bl (kit_bool_int K) q1
  | str x => exact r_isiO_str (kit_str_int K) q0
  | lst e => exact r_isiO_lst e (kit_list_int K) q0
  | tup e => exact r_isiO_tup e (kit_tuple_int K) q0
  | dct e => exact r_isiO_dct e (kit_dict_int K) q0
def rStrI : List V → Hp → VK → Prop := fun xs H Q => ∃ i : Int, xs = [.int i] ∧ 0 ≤ i ∧ i < 100000 ∧ ∀ x, Q (.str x) H
theorem call_strI : CallR X (.type "str") rStrI := fun pins s σ H xs us Q I r ⟨i, e, h0, h1, q⟩ => call_str_int pins s σ H xs us Q I r ⟨i, e, by
  rcases Nat.eq_zero_or_pos i.natAbs with z | z
  · rw [z]; decide
  · exact (Nat.log2_lt (Nat.ne_of_gt z)).mpr (Nat.lt_of_lt_of_le (show i.natAbs < 2 ^ 17 by omega) (Nat.pow_le_pow_right (by decide) (by decide))), q _⟩
theorem r_strI {i : Int} (h0 : 0 ≤ i) (h1 : i < 100000) (q : ∀ x, Q (.str x) H) : rStrI [.int i] H Q := ⟨i, rfl, h0, h1, q⟩
theorem r_raise {C : Addr} {E : XK} {t : TA} {D : Ends} {σ : St} (h : t σ H fun vs H1 => vs.length ≤ sizeLine ∧ E (.ref C) none H1) : tRaise C E t D σ H := h
theorem r_tryX {sp : Sp} {C' : Addr} {i : Nat} {t : TA} {ts : TS} {D : Ends} (h : t σ H fun vs H1 => sp (vs ++ []) H1 (fun _ H2 => D.nx σ H2) (fun cls _ H2 => ∃ C, cls = .ref C ∧ Exc K C ∧ PySem.W.exmOne K (.ref C) (.ref C') = some true ∧
  ∀ x, H2 x = none → ts { nx := fun _ _ => False, rt := D.rt } (σ.set i (some (.ref x))) (upd H2 x (.ext (ExAt x C))))) : tTryX K sp C' i t ts D σ H := h
theorem bo_ValueError : bootBuiltins "ValueError" = some (.type "ValueError") := by decide +kernel
def spc (sp : Sp) : Sp := fun vs H Q _ => sp vs H Q E0
def Nm (K : PySem.W.Frag) (x : Str) (C : Addr) : Prop := PySem.W.nsIn K mainGlobals x = some (some (.ref C))
theorem Nm.eq {x : Str} {C C' : Addr} (h : Nm K x C) (h' : Nm K x C') : C = C' := by
  have := h.symm.trans h'
  cases this; rfl
theorem call_isiXK {K : PySem.W.Frag} (e : X.K = K) : CallR X (.builtin "isinstance") (rIsiX K) := e ▸ call_isiX
theorem call_isiTK {K : PySem.W.Frag} (e : X.K = K) : CallR X (.builtin "isinstance") (rIsiT K) := e ▸ call_isiT
/-! ### items that are no starred ones -/
theorem se_Constant {c : Const} {n : Nat} {p : Pos} {es : List Expr} {env : Env} : starEach (.Constant c n p :: es) env = (false, eval (.Constant c n p) env) :: starEach es env := rfl
theorem se_Name {x : Str} {p : Pos} {es : List Expr} {env : Env} : starEach (.Name x p :: es) env = (false, eval (.Name x p) env) :: starEach es env := rfl
theorem se_Call {f : Expr} {as : List Expr} {ks : List Keyword} {p : Pos} {es : List Expr} {env : Env} : starEach (.Call f as ks p :: es) env = (false, eval (.Call f as ks p) env) :: starEach es env := rfl
theorem se_BinOp {l r : Expr} {o : Operator} {p : Pos} {es : List Expr} {env : Env} : starEach (.BinOp l o r p :: es) env = (false, eval (.BinOp l o r p) env) :: starEach es env := rfl
theorem se_Tuple {es' : List Expr} {k : Nat} {p : Pos} {es : List Expr} {env : Env} : starEach (.Tuple es' k p :: es) env = (false, eval (.Tuple es' k p) env) :: starEach es env := rfl
theorem se_List {es' : List Expr} {p : Pos} {es : List Expr} {env : Env} : starEach (.List es' p :: es) env = (false, eval (.List es' p) env) :: starEach es env := rfl
theorem se_Dict {ks : List (Option Expr)} {vs : List Expr} {p : Pos} {es : List Expr} {env : Env} : starEach (.Dict ks vs p :: es) env = (false, eval (.Dict ks vs p) env) :: starEach es env := rfl
theorem se_Subscript {a b : Expr} {p : Pos} {es : List Expr} {env : Env} : starEach (.Subscript a b p :: es) env = (false, eval (.Subscript a b p) env) :: starEach es env := rfl
theorem se_UnaryOp {o : UnaryOp} {a : Expr} {p : Pos} {es : List Expr} {env : Env} : starEach (.UnaryOp o a p :: es) env = (false, eval (.UnaryOp o a p) env) :: starEach es env := rfl
theorem se_BoolOp {o : BoolOp} {vs : List Expr} {p : Pos} {es : List Expr} {env : Env} : starEach (.BoolOp o vs p :: es) env = (false, eval (.BoolOp o vs p) env) :: starEach es env := rfl
theorem se_IfExp {a b c : Expr} {p : Pos} {es : List Expr} {env : Env} : starEach (.IfExp a b c p :: es) env = (false, eval (.IfExp a b c p) env) :: starEach es env := rfl
theorem se_Attribute {a : Expr} {x : Str} {p : Pos} {es : List Expr} {env : Env} : starEach (.Attribute a x p :: es) env = (false, eval (.Attribute a x p) env) :: starEach es env := rfl
theorem se_Compare {a : Expr} {os : List CmpOp} {bs : List Expr} {p : Pos} {es : List Expr} {env : Env} : starEach (.Compare a os bs p :: es) env = (false, eval (.Compare a os bs p) env) :: starEach es env := rfl
theorem se_ListComp {a : Expr} {gs : List Comprehension} {sc : Scope} {p : Pos} {es : List Expr} {env : Env} : starEach (.ListComp a gs sc p :: es) env = (false, eval (.ListComp a gs sc p) env) :: starEach es env := rfl
theorem se_JoinedStr {vs : List Expr} {p : Pos} {es : List Expr} {env : Env} : starEach (.JoinedStr vs p :: es) env = (false, eval (.JoinedStr vs p) env) :: starEach es env := rfl
def isDct1 : Expr → Bool
  | .Dict [some (.Constant (.int _) _ _)] [.Constant (.int _) _ _] _ => true
  | _ => false
theorem pa_dctB {e : Expr} {es : List Expr} {t : TA} (h : isDct1 e = true) (hr : PA X es t) : PA X (e :: es) (tCons tDct t) := by
  have h1 : PE X e tDct := by
    unfold isDct1 at h
    split at h
    · exact pe_dct1
    · cases h
  have h2 : ∀ env, starEach (e :: es) env = (false, eval e env) :: starEach es env := by
    unfold isDct1 at h
    split at h
    · intro env; exact se_Dict
    · cases h
  exact pa_cons h1 hr (h2 _)
theorem r_bmL {T : String} {r : V → List V → Hp → VK → Prop} {to : TE} {t : TA} (h : to σ H fun x H1 => tyV K T x H1 ∧ t σ H1 fun xs H2 => r x xs H2 Q) : tBM K T r to t σ H Q := h
theorem r_tyLL {p : Addr} {xs : List V} {R : Prop} (h : SqL K H p xs) (q : R) : tyV K "list" (.ref p) H ∧ R := ⟨.inl ⟨rfl, _, h⟩, q⟩
theorem r_append {l : Addr} {xs : List V} {y : V} (h : H l = some (.lst xs)) (h2 : xs.length < sizeLine) (q : Q .non (upd H l (.lst (xs ++ [y])))) : rAppend (.ref l) [y] H Q := ⟨l, xs, y, rfl, rfl, h, h2, q⟩
/-- the same but at r -/
def SB (r : Addr) (H F : Hp) : Prop := ∀ b o, b ≠ r → H b = some o → F b = some o
theorem SB.put {r : Addr} {H F : Hp} {o : HO} (h : SB r H F) : SB r H (upd F r o) := fun b u n e => by rw [upd_ne n]; exact h b u n e
theorem SB.then {r : Addr} {H F G : Hp} (h : SB r H F) (g : Same F G) : SB r H G := fun b u n e => g _ _ (h b u n e)
theorem SB.refl {r : Addr} {H : Hp} : SB r H H := fun _ _ _ e => e
theorem SB.same {r : Addr} {H F : Hp} (h : SB r H F) (n : H r = none) : Same H F := fun b o e => h b o (ne_of_none e n) e
end
end L2

set_option Elab.async false
set_option linter.all false
set_option maxRecDepth 100000
set_option maxHeartbeats 400000
namespace L2
open PySem PySem.Spec PyProof.Rows
/-! ### texts: what the layer's rules ask, by a name, and its reading -/
section
variable {X : Cx} {H : Hp} {Q : VK} {K : PySem.W.Frag}
def rAddS : R2 := fun x y H Q => ∃ i j : Str, x = .str i ∧ y = .str j ∧ i.length + j.length ≤ sizeLine ∧ Q (.str (i ++ j)) H
theorem op_addS : OpR X (binaryOp .Add) rAddS := op_add_str
theorem r_addS {i j : Str} (hz : i.length + j.length ≤ sizeLine) (q : Q (.str (i ++ j)) H) : rAddS (.str i) (.str j) H Q := ⟨i, j, rfl, rfl, hz, q⟩
theorem r_ixS {z : Str} {i : Int} {c : Nat} (hz : z.length ≤ sizeLine) (e : atI z.cps.toList i = some c) (q : Q (.str ⟨#[c]⟩) H) : rIxS (.str z) (.int i) H Q := ⟨z, i, c, rfl, rfl, hz, e, q⟩
def rLenT : List V → Hp → VK → Prop := fun xs H Q => ∃ z : Str, xs = [.str z] ∧ z.length ≤ sizeLine ∧ Q (.int z.length) H
theorem call_lenT : CallR X (.builtin "len") rLenT := call_len_str
theorem r_lenS {z : Str} (hz : z.length ≤ sizeLine) (q : Q (.int z.length) H) : rLenT [.str z] H Q := ⟨z, rfl, hz, q⟩
def rInS : R2 := fun x y H Q => ∃ i j : Str, x = .str i ∧ y = .str j ∧ Q (.bl (!(Builtin.Str.occurrences j i 0 j.length 1).isEmpty)) H
theorem op_inS : OpR X (compareOp .In) rInS := op_in_str
theorem r_inS {i j : Str} (q : Q (.bl (!(Builtin.Str.occurrences j i 0 j.length 1).isEmpty)) H) : rInS (.str i) (.str j) H Q := ⟨i, j, rfl, rfl, q⟩
theorem r_eqT2 {i j : Str} (q : Q (.bl (decide (i = j))) H) : rEq (.str i) (.str j) H Q := r_eqS rfl q
/-- isinstance of a text -/
theorem r_isi_ss {x : Str} (q : Q (.bl true) H) : rIsi K [.str x, .ty "str"] H Q := r_isi (.str x) ⟨_, .inl rfl⟩ (kit_str_str K) q
/-! ### a text's slice -/
def rSlS : V → Option Int → Option Int → Hp → VK → Prop := fun x lo hi H Q => ∃ z : Str, x = .str z ∧ z.length ≤ sizeLine ∧ Q (.str (Txt.slice z lo hi)) H
theorem sl_str : SlR X rSlS := by
  intro pins s σ H x v vl vu lo hi sl Q I rx hs pl pu h
  obtain ⟨z, rfl, hz, q⟩ := h
  obtain ⟨t, rfl⟩ := rx
  refine ⟨"str", _, PySem.F.slot_str_getitem.lookup, typeIs_str _ _ _, ?_⟩
  have fin : ∀ (t' : Tok) (k : Nat), EP X pins σ Q (.str (Txt.slice z lo hi) t') { s with toks := k } := fun t' k => ⟨.str _, H, I.tok _, ⟨t', rfl⟩, q⟩
  have le := Nat.le_trans (Txt.slice_le z lo hi) hz
  cases pl <;> cases pu
  · exact wpAny_getItem_str_slice (l := none) (u := none) (st := none) hs rfl (post_val_or_str ⟨le, fin⟩)
  · exact wpAny_getItem_str_slice (l := none) (u := some (_, _)) (st := none) hs rfl (post_val_or_str ⟨le, fin⟩)
  · exact wpAny_getItem_str_slice (l := some (_, _)) (u := none) (st := none) hs rfl (post_val_or_str ⟨le, fin⟩)
  · exact wpAny_getItem_str_slice (l := some (_, _)) (u := some (_, _)) (st := none) hs rfl (post_val_or_str ⟨le, fin⟩)
theorem r_slS {z : Str} {lo hi : Option Int} (hz : z.length ≤ sizeLine) (q : Q (.str (Txt.slice z lo hi)) H) : rSlS (.str z) lo hi H Q := ⟨z, rfl, hz, q⟩
end
end L2

set_option Elab.async false
set_option linter.all false
set_option maxRecDepth 100000
set_option maxHeartbeats 400000
namespace L2
open PySem PySem.Spec PyProof.Rows
/-! ### texts by their signs -/
abbrev Lt (x : Str) : List Nat := x.cps.toList
def T (l : List Nat) : Str := ⟨l.toArray⟩
theorem Lt_T (l : List Nat) : Lt (T l) = l := rfl
theorem T_Lt (x : Str) : T (Lt x) = x := by cases x; simp [T, Lt]
theorem Lt_inj {x y : Str} (h : Lt x = Lt y) : x = y := by rw [← T_Lt x, ← T_Lt y, h]
theorem T_eq {a b : List Nat} : T a = T b ↔ a = b := ⟨fun h => by have := congrArg Lt h; rwa [Lt_T, Lt_T] at this, fun h => by rw [h]⟩
theorem len_Lt (x : Str) : x.length = (Lt x).length := rfl
theorem app_T (x y : Str) : x ++ y = T (Lt x ++ Lt y) := Lt_inj (by rw [Lt_T]; show (x.cps ++ y.cps).toList = _; simp)
theorem getD_T (l : List Nat) (i : Nat) {c : Nat} (h : l[i]? = some c) : l.getD i 0 = c := by simp [h]
theorem getD_app1 {a b : List Nat} {i : Nat} (h : i < a.length) : (a ++ b).getD i 0 = a.getD i 0 := by
  rw [List.getD_eq_getElem?_getD, List.getD_eq_getElem?_getD, List.getElem?_append_left h]
theorem getD_app2 {a b : List Nat} {i : Nat} (h : a.length ≤ i) : (a ++ b).getD i 0 = b.getD (i - a.length) 0 := by
  rw [List.getD_eq_getElem?_getD, List.getD_eq_getElem?_getD, List.getElem?_append_right h]
theorem getD_rep {n i f : Nat} (h : i < n) : (List.replicate n f).getD i 0 = f := by
  rw [List.getD_eq_getElem?_getD, List.getElem?_replicate, if_pos h]; rfl
theorem fm_take (l : List Nat) (a : Nat) : ∀ m : Nat, (List.range m).filterMap (fun k => l[a + k]?) = (l.drop a).take m
  | 0 => by simp
  | m + 1 => by
    rw [List.range_succ, List.filterMap_append, fm_take l a m, List.take_succ]
    congr 1
    rw [List.getElem?_drop]
    rw [List.filterMap_cons]
    cases l[a + m]? <;> rfl
/-- where a bound of a slice lies -/
def cl (n d : Nat) : Option Int → Nat
  | none => d
  | some i => (max 0 (min (if i < 0 then i + n else i) (n : Int))).toNat
theorem slice_T (z : Str) (lo hi : Option Int) : Txt.slice z lo hi = T (((Lt z).take (cl (Lt z).length (Lt z).length hi)).drop (cl (Lt z).length 0 lo)) := by
  have e : Builtin.Str.strSliceIndices lo hi 1 z.length = (List.range (cl (Lt z).length (Lt z).length hi - cl (Lt z).length 0 lo)).map (fun x => cl (Lt z).length 0 lo + x) := by
    rw [← sliceRange_one]
    unfold Builtin.Str.strSliceIndices
    cases lo <;> cases hi <;> simp [cl, len_Lt, Int.toNat_of_nonneg, Int.le_max_left]
  have k : (List.filterMap (fun x => z.cps[x]?) (Builtin.Str.strSliceIndices lo hi 1 z.length)) = ((Lt z).take (cl (Lt z).length (Lt z).length hi)).drop (cl (Lt z).length 0 lo) := by
    rw [e, List.filterMap_map]
    have f : ((fun x => z.cps[x]?) ∘ fun x => cl (Lt z).length 0 lo + x) = fun k => (Lt z)[cl (Lt z).length 0 lo + k]? := by funext k; simp [Lt]
    rw [f, fm_take, List.drop_take]
  unfold Txt.slice
  split
  · rename_i h
    have hl : (Builtin.Str.strSliceIndices lo hi 1 z.length).length = (Lt z).length := (by simpa using h : _ = z.length)
    rw [e, List.length_map, List.length_range] at hl
    have b1 : cl (Lt z).length (Lt z).length hi ≤ (Lt z).length := by
      unfold cl; split <;> omega
    rcases Nat.eq_zero_or_pos (Lt z).length with p | p
    · rw [List.eq_nil_of_length_eq_zero p]; simp
      exact Lt_inj (List.eq_nil_of_length_eq_zero p)
    · rw [show cl (Lt z).length 0 lo = 0 by omega, show cl (Lt z).length (Lt z).length hi = (Lt z).length by omega, List.take_length, List.drop_zero, T_Lt]
  · rw [k]; rfl
section
variable {X : Cx} {H : Hp} {Q : VK} {K : PySem.W.Frag}
theorem rT_add {x y : Str} (hz : (Lt x).length + (Lt y).length ≤ 16777216) (q : Q (.str (T (Lt x ++ Lt y))) H) : rAddS (.str x) (.str y) H Q := r_addS hz (by rw [app_T]; exact q)
theorem rT_len {z : Str} (hz : (Lt z).length ≤ 16777216) (q : Q (.int (Lt z).length) H) : rLenT [.str z] H Q := r_lenS hz q
/-- one sign of a text -/
theorem rT_ix {z : Str} {i : Int} (hz : (Lt z).length ≤ 16777216) (h0 : 0 ≤ i) (h1 : i < (Lt z).length) (q : Q (.str (T [(Lt z).getD i.toNat 0])) H) : rIxS (.str z) (.int i) H Q := by
  refine r_ixS (c := (Lt z).getD i.toNat 0) hz ?_ q
  unfold atI ixN
  rw [if_pos h0, if_pos h1]
  show (Lt z)[i.toNat]? = _
  rw [List.getD_eq_getElem?_getD, List.getElem?_eq_getElem (by omega)]; rfl
/-- one sign of a written text -/
theorem rT_ixK {z : Str} {i : Int} (n : Nat) (hn : (Lt z).length = n) (hz : n ≤ 16777216) (h0 : 0 ≤ i) (h1 : i < n) (q : ∀ c, c ∈ Lt z → Q (.str (T [c])) H) : rIxS (.str z) (.int i) H Q := by
  refine rT_ix (by omega) h0 (by omega) (q _ ?_)
  rw [List.getD_eq_getElem?_getD, List.getElem?_eq_getElem (by omega)]
  exact List.getElem_mem _
/-- the last sign -/
theorem rT_ixL {z : Str} (hz : (Lt z).length ≤ 16777216) (h1 : 0 < (Lt z).length) (q : Q (.str (T [(Lt z).getD ((Lt z).length - 1) 0])) H) : rIxS (.str z) (.int (-1)) H Q := by
  refine r_ixS (c := (Lt z).getD ((Lt z).length - 1) 0) hz ?_ q
  unfold atI ixN
  rw [if_neg (show ¬ (0 : Int) ≤ -1 by decide), if_pos (show -((Lt z).length : Int) ≤ -1 by omega)]
  show (Lt z)[((-1 : Int) + (Lt z).length).toNat]? = _
  rw [show ((-1 : Int) + (Lt z).length).toNat = (Lt z).length - 1 by omega, List.getD_eq_getElem?_getD, List.getElem?_eq_getElem (by omega)]; rfl
theorem rT_sl0 {z : Str} {j : Int} (hz : (Lt z).length ≤ 16777216) (h : 0 ≤ j) (q : Q (.str (T ((Lt z).take j.toNat))) H) : rSlS (.str z) none (some j) H Q := by
  refine r_slS hz ?_
  rw [slice_T]
  have e : (Lt z).take (cl (Lt z).length (Lt z).length (some j)) = (Lt z).take j.toNat := by
    unfold cl; dsimp only; rw [if_neg (by omega)]
    rcases Int.le_total j (Lt z).length with p | p
    · rw [Int.min_eq_left p, Int.max_eq_right h]
    · rw [Int.min_eq_right p, Int.max_eq_right (by omega), List.take_of_length_le (by omega), List.take_of_length_le (by omega)]
  rw [e]; exact q
theorem cl_drop (l : List Nat) {i : Int} (h : 0 ≤ i) (n d : Nat) (hn : l.length ≤ n) : l.drop (cl n d (some i)) = l.drop i.toNat := by
  unfold cl; dsimp only; rw [if_neg (by omega)]
  rcases Int.le_total i n with p | p
  · rw [Int.min_eq_left p, Int.max_eq_right h]
  · rw [Int.min_eq_right p, Int.max_eq_right (by omega), List.drop_of_length_le (by omega), List.drop_of_length_le (by omega)]
theorem cl_take (l : List Nat) {i : Int} (h : 0 ≤ i) (d : Nat) : l.take (cl l.length d (some i)) = l.take i.toNat := by
  unfold cl; dsimp only; rw [if_neg (by omega)]
  rcases Int.le_total i l.length with p | p
  · rw [Int.min_eq_left p, Int.max_eq_right h]
  · rw [Int.min_eq_right p, Int.max_eq_right (by omega), List.take_of_length_le (by omega), List.take_of_length_le (by omega)]
theorem rT_sli {z : Str} {i : Int} (hz : (Lt z).length ≤ 16777216) (h : 0 ≤ i) (q : Q (.str (T ((Lt z).drop i.toNat))) H) : rSlS (.str z) (some i) none H Q := by
  refine r_slS hz ?_
  rw [slice_T, cl_drop _ h _ _ (by rw [List.length_take]; omega)]
  show Q (.str (T (((Lt z).take (Lt z).length).drop i.toNat))) H
  rw [List.take_length]; exact q
theorem rT_slij {z : Str} {i j : Int} (hz : (Lt z).length ≤ 16777216) (h : 0 ≤ i) (h' : 0 ≤ j) (q : Q (.str (T (((Lt z).take j.toNat).drop i.toNat))) H) : rSlS (.str z) (some i) (some j) H Q := by
  refine r_slS hz ?_
  rw [slice_T, cl_drop _ h _ _ (by rw [List.length_take]; omega), cl_take _ h']
  exact q
/-! ### a text so many times -/
def rMulT : R2 := fun x y H Q => ∃ (z : Str) (n : Int), x = .str z ∧ y = .int n ∧ n < 16777216 ∧ -16777216 < n ∧ (Lt z).length * n.toNat ≤ 16777216 ∧ Q (.str (T (List.replicate n.toNat (Lt z)).flatten)) H
theorem foldl_app : ∀ (xs : List (Array Nat)) (a : Array Nat), (xs.foldl (fun x1 x2 => x1 ++ x2) a).toList = a.toList ++ (xs.map Array.toList).flatten
  | [], a => by simp
  | x :: xs, a => by rw [List.foldl_cons, foldl_app xs]; simp
theorem mul_T (z : Str) (n : Int) : Txt.mul z n = T (List.replicate n.toNat (Lt z)).flatten := by
  unfold Txt.mul
  split
  · rw [show n.toNat = 0 by omega]; rfl
  · split
    · rename_i h1 h2
      rw [Bool.or_eq_true] at h2
      rcases h2 with h | h
      · have : n = 1 := by simpa using h
        subst this
        show z = T ([Lt z].flatten)
        simp [T_Lt]
      · have e : (Lt z).length = 0 := (by simpa using h : z.length = 0)
        have e' : Lt z = [] := List.eq_nil_of_length_eq_zero e
        refine Lt_inj ?_
        rw [Lt_T, e']
        simp
    · refine Lt_inj ?_
      show (List.foldl (fun x1 x2 => x1 ++ x2) #[] (List.replicate n.toNat z.cps)).toList = _
      rw [foldl_app, List.map_replicate, Lt_T]
      simp
theorem op_mulT : OpR X (binaryOp .Mult) rMulT := by
  intro pins s σ H x y v u Q I rx ry h
  obtain ⟨z, n, rfl, rfl, h1, h2, h3, q⟩ := h
  obtain ⟨t, rfl⟩ := rx
  obtain ⟨t', rfl⟩ := ry
  refine SB.mul ⟨?_, fun h4 _ => ?_, fun _ _ => ?_⟩ fun t' k => ⟨.str _, H, I.tok _, ⟨t', rfl⟩, by rw [mul_T]; exact q⟩
  · rw [decide_eq_false (by omega), decide_eq_false (by omega)]; rfl
  · have e : ((Lt z).length : Int) * n ≤ 16777216 := by
      have := Int.ofNat_le.mpr h3
      rw [Int.natCast_mul, Int.toNat_of_nonneg (by omega)] at this; exact this
    intro h5
    have h6 := Int.mul_le_of_le_ediv (c := n) (by omega) (Int.le_refl ((2 ^ 63 - 1) / n))
    have h7 : ((2 : Int) ^ 63 - 1) / n + 1 ≤ (Lt z).length := h5
    have h8 := Int.mul_le_mul_of_nonneg_right h7 (show 0 ≤ n by omega)
    have h9 := Int.lt_ediv_add_one_mul_self ((2 : Int) ^ 63 - 1) (show 0 < n by omega)
    omega
  · unfold Builtin.Str.tooLong
    exact decide_eq_false (by show ¬ (Lt z).length * n.toNat > 16777216; omega)
/-- a fill so many times -/
theorem rT_mul1 {c : Nat} {n : Int} (h1 : n < 16777216) (h2 : -16777216 < n) (q : Q (.str (T (List.replicate n.toNat c))) H) : rMulT (.str (T [c])) (.int n) H Q :=
  ⟨T [c], n, rfl, rfl, h1, h2, by rw [Lt_T, List.length_singleton, Nat.one_mul]; omega, by rw [Lt_T, List.flatten_replicate_singleton]; exact q⟩
theorem r_neT2 {i j : Str} (q : Q (.bl (!decide (i = j))) H) : rNe (.str i) (.str j) H Q := ⟨rfl, by
  have e : decide (V.str i = V.str j) = decide (i = j) := by
    by_cases h : i = j
    · rw [decide_eq_true h, decide_eq_true (congrArg V.str h)]
    · rw [decide_eq_false h, decide_eq_false (fun z => h (V.str.inj z))]
  rw [e]; exact q⟩
/-! the same of texts told by their signs -/
theorem rTT_add {a b : List Nat} (hz : a.length + b.length ≤ 16777216) (q : Q (.str (T (a ++ b))) H) : rAddS (.str (T a)) (.str (T b)) H Q := rT_add hz q
theorem rTS_add {a : List Nat} {y : Str} (hz : a.length + (Lt y).length ≤ 16777216) (q : Q (.str (T (a ++ Lt y))) H) : rAddS (.str (T a)) (.str y) H Q := rT_add hz q
theorem rST_add {a : List Nat} {y : Str} (hz : (Lt y).length + a.length ≤ 16777216) (q : Q (.str (T (Lt y ++ a))) H) : rAddS (.str y) (.str (T a)) H Q := rT_add hz q
theorem rTT_len {a : List Nat} (hz : a.length ≤ 16777216) (q : Q (.int a.length) H) : rLenT [.str (T a)] H Q := rT_len hz q
theorem rTT_ix {a : List Nat} {i : Int} (hz : a.length ≤ 16777216) (h0 : 0 ≤ i) (h1 : i < a.length) (q : Q (.str (T [a.getD i.toNat 0])) H) : rIxS (.str (T a)) (.int i) H Q := rT_ix hz h0 h1 q
theorem rTT_ixL {a : List Nat} (hz : a.length ≤ 16777216) (h1 : 0 < a.length) (q : Q (.str (T [a.getD (a.length - 1) 0])) H) : rIxS (.str (T a)) (.int (-1)) H Q := rT_ixL hz h1 q
theorem rTT_sl0 {a : List Nat} {j : Int} (hz : a.length ≤ 16777216) (h : 0 ≤ j) (q : Q (.str (T (a.take j.toNat))) H) : rSlS (.str (T a)) none (some j) H Q := rT_sl0 hz h q
theorem rTT_sli {a : List Nat} {i : Int} (hz : a.length ≤ 16777216) (h : 0 ≤ i) (q : Q (.str (T (a.drop i.toNat))) H) : rSlS (.str (T a)) (some i) none H Q := rT_sli hz h q
theorem rTT_slij {a : List Nat} {i j : Int} (hz : a.length ≤ 16777216) (h : 0 ≤ i) (h' : 0 ≤ j) (q : Q (.str (T ((a.take j.toNat).drop i.toNat))) H) : rSlS (.str (T a)) (some i) (some j) H Q := rT_slij hz h h' q
theorem rTT_eq {a b : List Nat} (q : Q (.bl (decide (a = b))) H) : rEq (.str (T a)) (.str (T b)) H Q := r_eqT2 (by
  have e : decide (T a = T b) = decide (a = b) := decide_eq_decide.mpr T_eq
  rw [e]; exact q)
theorem rTT_ne {a b : List Nat} (q : Q (.bl (!decide (a = b))) H) : rNe (.str (T a)) (.str (T b)) H Q := r_neT2 (by
  have e : decide (T a = T b) = decide (a = b) := decide_eq_decide.mpr T_eq
  rw [e]; exact q)
theorem r_neS {x y : Str} {b : Bool} (h : decide (x = y) = b) (q : Q (.bl (!b)) H) : rNe (.str x) (.str y) H Q := r_neT2 (by rw [h]; exact q)
/-- one of a list's things -/
theorem r_ixAll {p : Addr} {xs : List V} {i : Int} (h : SqL K H p xs) (h0 : 0 ≤ i) (h1 : i < xs.length) (q : ∀ x, xs[i.toNat]? = some x → Q x H) : rIxL K (.ref p) (.int i) H Q := by
  have h2 : i.toNat < xs.length := by omega
  have e : atI xs ((i.toNat : Nat) : Int) = some xs[i.toNat] := atI_nat (List.getElem?_eq_getElem h2)
  rw [show ((i.toNat : Nat) : Int) = i by omega] at e
  exact r_ixL h e (q _ (List.getElem?_eq_getElem h2))
/-! ### methods of texts -/
def rFindT : V → List V → Hp → VK → Prop := fun x xs H Q => ∃ z y : Str, x = .str z ∧ xs = [.str y] ∧ Q (.int (Txt.find z y)) H
theorem mt_findT : MtR X "str.find" rFindT := by
  intro pins s σ H x xs v us Q I rx rv h
  obtain ⟨z, y, rfl, rfl, q⟩ := h
  obtain ⟨t, rfl⟩ := rx
  obtain ⟨u, rfl, ru⟩ := rv.one
  obtain ⟨t', rfl⟩ := ru
  exact SC.find ⟨.int _, H, I.tok _, ⟨_, rfl⟩, q⟩
theorem r_findT {z y : Str} (q : Q (.int (Txt.find z y)) H) : rFindT (.str z) [.str y] H Q := ⟨z, y, rfl, rfl, q⟩
theorem r_tyS {z : Str} {R : Prop} (q : R) : tyV K "str" (.str z) H ∧ R := ⟨rfl, q⟩
end
end L2

set_option Elab.async false
set_option linter.all false
set_option maxRecDepth 100000
set_option maxHeartbeats 400000
namespace L2
open PySem PySem.Spec PyProof.Rows
/-! ### a for over a text -/
def Its (x : Str) : It := ⟨fun i _ => i < (Lt x).length, fun i H v H' => H' = H ∧ ∃ c, (Lt x)[i]? = some c ∧ v = .str (T [c]), fun i _ => i = (Lt x).length⟩
theorem turn_str {P : Program} {w : World} {K : PySem.W.Frag} {tg : Expr} (x : Str) (t : Tok) (it : Addr) (ty : String) (hty : ty = "str_ascii_iterator" ∨ ty = "str_iterator") : Turn P w K tg (Its x) [it] it (fun i h => h.IsStrIter it ty x t i) where
  mem := by simp
  obj := fun i h st b hb => by
    have e : b = it := by simpa using hb
    subst e
    obtain ⟨o, e, c, d⟩ := st
    exact ⟨o, e, fun v z => by rw [d] at z; cases z⟩
  keep := fun i h h' st k => by
    obtain ⟨o, e, c, d⟩ := st
    exact ⟨o, k it (by simp) o e, c, d⟩
  item := by
    intro X hP hw hK hc i pins s σ H E I hf st hg
    subst hP hw hK
    obtain ⟨f0, f1, f2, f3, f4, f5⟩ := hf it (by simp)
    have W : Walks X.prog X.w X.A it [it] [it] x.cps.size (SignAt x) (fun i h => h.IsStrIter it ty x t i) := by
      rcases hty with rfl | rfl
      · exact Walks.strAscii (I.ok.hd hc) it x t
      · exact Walks.strWide (I.ok.hd hc) it x t
    refine W.item i s _ _ hg st fun v h' tk hv st' kk => ?_
    obtain ⟨c, u, hcu, rfl⟩ := hv
    have I1 : Inv X pins σ H { s with heap := h', toks := tk } := I.turned (fun b o hb e => kk b o (by simpa using hb) e) f0 f1 f3 f4 f5
    obtain ⟨o, e, c1, d⟩ := id st'
    have hn : ["enumerate", "zip", "dict_itemiterator", "dict_reverseitemiterator", "odict_iterator", "itertools.zip_longest", "itertools.pairwise"].contains ty = false := by rcases hty with rfl | rfl <;> decide
    exact ⟨_, rfl, go_of (s := { s with heap := h', toks := tk }) e c1 d hn ⟨.str (T [c]), H, I1, ⟨u, rfl⟩, ⟨rfl, c, by simpa [Lt] using hcu, rfl⟩, st', fun b hb => (hf b hb).1⟩⟩
  done := by
    intro X hP hw hK hc i pins s σ H E I hf st hg
    subst hP hw hK
    obtain ⟨f0, f1, f2, f3, f4, f5⟩ := hf it (by simp)
    have W : Walks X.prog X.w X.A it [it] [it] x.cps.size (SignAt x) (fun i h => h.IsStrIter it ty x t i) := by
      rcases hty with rfl | rfl
      · exact Walks.strAscii (I.ok.hd hc) it x t
      · exact Walks.strWide (I.ok.hd hc) it x t
    have hi : i = x.cps.size := hg
    subst hi
    exact W.done s _ _ st fun h' tk kk => ⟨rfl, I.turned (fun b o hb e => kk b o (by simpa using hb) e) f0 f1 f3 f4 f5⟩
  self := fun _ _ _ _ _ st h => by
    rcases hty with rfl | rfl
    · exact wpAny_pyIter_striter_ascii st h
    · exact wpAny_pyIter_striter_wide st h
section
variable {X : Cx} {tg : Expr}
def iStr (tl : TE) : TI := fun σ H R => tl σ H fun x H1 => ∃ z : Str, x = .str z ∧ R (Its z) H1
theorem pi_strT {l : Expr} {tl : TE} (hl : PE X l tl) : PI X tg l (iStr tl) := by
  intro pins s σ H R I h
  refine thn (hl pins s σ H _ I h) fun v s1 ⟨x, H1, I1, r1, q1⟩ => ?_
  obtain ⟨z, e, q⟩ := q1
  subst e
  obtain ⟨t, rfl⟩ := r1
  have hty : strIterType z = "str_ascii_iterator" ∨ strIterType z = "str_iterator" := by unfold strIterType; split <;> simp
  refine wpAny_pyIter_strU ?_
  refine ⟨s1.heap.objs.size, [s1.heap.objs.size], _, _, H1, rfl, I1.kept (t' := s1.toks) fun b o e => Heap.get?_push_of_some _ e, turn_str z t _ _ hty, ⟨_, Heap.get?_push_size _ rfl, rfl, rfl⟩, fun b hb => ?_, q⟩
  have e : b = s1.heap.objs.size := by simpa using hb
  subst e
  exact I1.fpOk (Nat.le_refl _) (I1.hok.fresh (Nat.le_refl _))
end
section
variable {σ : St} {H : Hp} {Q : VK} {D : Ends} {K : PySem.W.Frag}
def kForS (g : TG) (tb : TS) (D : Ends) (σ : St) (x : V) (H : Hp) : Prop := ∃ z : Str, x = .str z ∧ ∃ W : Nat → Nat → St → Hp → Prop, (∃ m, W 0 m σ H) ∧ ∀ i m σ H, W i m σ H →
  ((Its z).stop i H ∧ D.nx σ H) ∨ ((Its z).go i H ∧ ∃ N : St → Hp → Prop, (∀ σ' H', N σ' H' → ∃ m', m' < m ∧ W (i + 1) m' σ' H') ∧ ∀ x H', (Its z).yld i H x H' → g x σ H' fun σ2 H2 => tb { D with nx := N, ct := N, bk := D.nx } σ2 H2)
theorem r_forS {tl : TE} {g : TG} {tb : TS} (h : tl σ H (kForS g tb D σ)) : tFor (iStr tl) g tb D σ H := h
theorem r_kForS {g : TG} {tb : TS} {a : List Nat} (Pv : Nat → St → Hp → Prop) (h0 : Pv 0 σ H)
    (hs : ∀ i c σ H, a[i]? = some c → Pv i σ H → g (.str (T [c])) σ H fun σ2 H2 => tb { D with nx := Pv (i + 1), ct := Pv (i + 1), bk := D.nx } σ2 H2) (hd : ∀ σ H, Pv a.length σ H → D.nx σ H) : kForS g tb D σ (.str (T a)) H := by
  refine ⟨T a, rfl, fun i m σ H => i + m = a.length ∧ Pv i σ H, ⟨a.length, by omega, h0⟩, ?_⟩
  rintro i m σ H ⟨hm, hp⟩
  rcases Nat.lt_or_ge i a.length with h | h
  · refine .inr ⟨h, Pv (i + 1), fun σ' H' hp' => ⟨m - 1, by omega, by omega, hp'⟩, ?_⟩
    rintro x H' ⟨rfl, c, hc, rfl⟩
    exact hs i c σ H' hc hp
  · have e : i = a.length := by omega
    subst e
    exact .inl ⟨rfl, hd σ H hp⟩
theorem rTS_eq {a : List Nat} {y : Str} (q : Q (.bl (decide (a = Lt y))) H) : rEq (.str (T a)) (.str y) H Q := by
  have e : rEq (.str (T a)) (.str (T (Lt y))) H Q := rTT_eq q
  rw [T_Lt] at e; exact e
theorem rTS_ne {a : List Nat} {y : Str} (q : Q (.bl (!decide (a = Lt y))) H) : rNe (.str (T a)) (.str y) H Q := by
  have e : rNe (.str (T a)) (.str (T (Lt y))) H Q := rTT_ne q
  rw [T_Lt] at e; exact e
end
/-- the first cell, and the script's others behind it -/
theorem r_slCat {K : PySem.W.Frag} {H : Hp} {Q : VK} {a p0 : Addr} {v : Int} {ns : List Int} {lo hi : Option Int} (hS : SqL K H a (ns.map V.int)) (h63 : ns.length ≤ 63) (e0 : H p0 = some (.lst [.int v]))
    (q : ∀ (zs : List Int) (p : Addr) (H' : Hp), Same H H' → H' p = some (.lst (zs.map V.int)) → 0 < zs.length → zs.length ≤ 64 → Q (.ref p) H') : rSlL K (.ref a) lo hi H (fun y H2 => rCat (.ref p0) y H2 Q) := by
  refine r_slL hS ?_
  intro p1 H1 g1 e1
  obtain ⟨ys, ey, hy⟩ := cutV_map V.int ns lo hi
  have ly := cutV_length (ns.map V.int) lo hi
  rw [ey] at e1 ly
  rw [List.length_map, List.length_map] at ly
  refine r_cat (g1.at e0) e1 (small (by simp only [List.length_cons, List.length_nil, List.length_map]; omega)) ?_
  intro p2 H2 g2 e2
  exact q (v :: ys) p2 H2 (g1.trans g2) e2 (by simp) (by simp; omega)
theorem int_at {zs : List Int} {i : Nat} {x : V} (h : (zs.map V.int)[i]? = some x) : ∃ n, x = .int n := by
  obtain ⟨n, _, e⟩ := List.mem_map.mp (List.mem_of_getElem? h)
  exact ⟨n, e.symm⟩
/-! ### figures -/
def fv (c : Nat) : Int := if 48 ≤ c ∧ c ≤ 57 then (c : Int) - 48 else if 97 ≤ c ∧ c ≤ 102 then (c : Int) - 87 else -1
theorem find_all : ∀ c ∈ List.range 127, Txt.find "0123456789abcdef" (T [c]) = fv c := by decide +kernel
theorem find_fv {c : Nat} (h : c < 127) : Txt.find "0123456789abcdef" (T [c]) = fv c := find_all c (List.mem_range.mpr h)
def fc (d : Nat) : Nat := (Lt "0123456789abcdef").getD d 0
theorem fc_all : ∀ d ∈ List.range 16, fc d < 127 ∧ fv (fc d) = d ∧ (fc d = 48 → d = 0) := by decide +kernel
theorem fc_ok {d : Nat} (h : d < 16) : fc d < 127 ∧ fv (fc d) = d ∧ (fc d = 48 → d = 0) := fc_all d (List.mem_range.mpr h)
/-- what figures are worth -/
def val (b : Int) (l : List Nat) : Int := l.foldl (fun n c => n * b + fv c) 0
theorem val_app (b : Int) (l : List Nat) (c : Nat) : val b (l ++ [c]) = val b l * b + fv c := by unfold val; rw [List.foldl_append]; rfl
theorem val_noughts (b : Int) (l : List Nat) : ∀ m : Nat, val b (List.replicate m 48 ++ l) = val b l
  | 0 => by simp
  | m + 1 => by
    have ih := val_noughts b l m
    unfold val at ih ⊢
    rw [List.replicate_succ, List.cons_append, List.foldl_cons]
    have : (0 : Int) * b + fv 48 = 0 := by rw [Int.zero_mul]; decide
    rw [this]; exact ih
/-- figures of a base -/
def FigB (b : Int) (l : List Nat) : Prop := ∀ c ∈ l, c < 127 ∧ 0 ≤ fv c ∧ fv c < b
theorem FigB.mono {b b' : Int} {l : List Nat} (h : FigB b l) (hb : b ≤ b') : FigB b' l := fun c hc => ⟨(h c hc).1, (h c hc).2.1, by have := (h c hc).2.2; omega⟩
theorem FigB.app {b : Int} {l m : List Nat} (h : FigB b l) (h' : FigB b m) : FigB b (l ++ m) := fun c hc => (List.mem_append.mp hc).elim (h c) (h' c)
theorem FigB.noughts {b : Int} (hb : 2 ≤ b) (m : Nat) : FigB b (List.replicate m 48) := fun c hc => by
  rw [List.eq_of_mem_replicate hc]; exact ⟨by decide, by decide, by show (0 : Int) < b; omega⟩
theorem FigB.one {b d : Nat} (hb : b ≤ 16) (h : d < b) : FigB b [fc d] := fun c hc => by
  rw [List.mem_singleton.mp hc]
  have := fc_ok (d := d) (by omega)
  exact ⟨this.1, by omega, by omega⟩
/-- a number's figures -/
def figs (b n : Nat) : List Nat := if h : n < b ∨ b < 2 then [fc n] else figs b (n / b) ++ [fc (n % b)]
termination_by n
decreasing_by exact Nat.div_lt_self (by omega) (by omega)
theorem figs_lt {b n : Nat} (h : n < b) : figs b n = [fc n] := by rw [figs]; simp [h]
theorem figs_ge {b n : Nat} (h2 : 2 ≤ b) (h : b ≤ n) : figs b n = figs b (n / b) ++ [fc (n % b)] := by rw [figs]; simp [show ¬ n < b by omega, show ¬ b < 2 by omega]
theorem figs_spec {b : Nat} (h2 : 2 ≤ b) (h16 : b ≤ 16) : ∀ (m n : Nat), n ≤ m → FigB b (figs b n) ∧ val b (figs b n) = n ∧ figs b n ≠ [] ∧ ((figs b n).getD 0 0 = 48 → n = 0) := by
  intro m
  induction m with
  | zero =>
    intro n hn
    rw [figs_lt (by omega)]
    have e := fc_ok (d := n) (by omega)
    exact ⟨FigB.one h16 (by omega), by unfold val; simp [e.2.1], by simp, fun _ => by omega⟩
  | succ m ih =>
    intro n hn
    rcases Nat.lt_or_ge n b with h | h
    · rw [figs_lt h]
      have e := fc_ok (d := n) (by omega)
      exact ⟨FigB.one h16 (by omega), by unfold val; simp [e.2.1], by simp, fun q => e.2.2 (by simpa using q)⟩
    · have hd : n / b < n := Nat.div_lt_self (by omega) (by omega)
      obtain ⟨i1, i2, i3, i4⟩ := ih (n / b) (by omega)
      have hm := Nat.mod_lt n (show b > 0 by omega)
      rw [figs_ge h2 h]
      refine ⟨i1.app (FigB.one h16 hm), ?_, by simp, fun q => ?_⟩
      · rw [val_app, i2, (fc_ok (d := n % b) (by omega)).2.1]
        have := Nat.div_add_mod n b
        rw [Nat.mul_comm] at this
        omega
      · rw [getD_app1 (List.length_pos_iff.mpr i3)] at q
        have := i4 q
        have p : 0 < n / b := Nat.div_pos h (by omega)
        omega
theorem figs_len {b : Nat} (h2 : 2 ≤ b) : ∀ (k n : Nat), n < b ^ (k + 1) → (figs b n).length ≤ k + 1
  | 0, n, h => by rw [Nat.pow_one] at h; rw [figs_lt h]; simp
  | k + 1, n, h => by
    rcases Nat.lt_or_ge n b with h' | h'
    · rw [figs_lt h']; simp
    · rw [figs_ge h2 h', List.length_append]
      have := figs_len h2 k (n / b) (Nat.div_lt_of_lt_mul (by rw [Nat.pow_succ, Nat.mul_comm] at h; exact h))
      simp; omega
theorem figs_240 {b n : Nat} (h2 : 2 ≤ b) (h : n < 1766847064778384329583297500742918515827483896875618958121606201292619776) : (figs b n).length ≤ 240 := by
  refine figs_len h2 239 n (Nat.lt_of_lt_of_le h ?_)
  have e : (1766847064778384329583297500742918515827483896875618958121606201292619776 : Nat) = 2 ^ 240 := by decide +kernel
  rw [e]; exact Nat.pow_le_pow_left h2 240
/-- a turn of the loop that takes the last figure off -/
theorem figs_turn {b m : Nat} (h2 : 2 ≤ b) (l : List Nat) : figs b m ++ l = if m / b = 0 then fc (m % b) :: l else figs b (m / b) ++ fc (m % b) :: l := by
  rcases Nat.lt_or_ge m b with h' | h'
  · rw [if_pos (Nat.div_eq_of_lt h'), figs_lt h', Nat.mod_eq_of_lt h']; rfl
  · have p : 0 < m / b := Nat.div_pos h' (by omega)
    rw [if_neg (by omega), figs_ge h2 h', List.append_assoc]; rfl
end L2

set_option Elab.async false
set_option linter.all false
set_option maxRecDepth 100000
set_option maxHeartbeats 400000
namespace L2
open PySem PySem.Spec PyProof.Rows
/-! ### lists that are made here and changed here -/
theorem r_kLstF {H : Hp} {Q : VK} {xs : List V} (hz : xs.length ≤ sizeLine) (h : ∀ p, H p = none → Q (.ref p) (upd H p (.lst xs))) : kLst Q xs H := ⟨hz, h⟩
theorem same_upd {H H' : Hp} {l : Addr} {o : HO} (g : Same H H') (n : H l = none) : Same H (upd H' l o) := fun b u q => by rw [upd_ne (ne_of_none q n)]; exact g b u q
theorem r_bm0 {K : PySem.W.Frag} {σ : St} {H : Hp} {Q : VK} {T : String} {r : V → List V → Hp → VK → Prop} {to : TE} (h : to σ H fun x H1 => tyV K T x H1 ∧ r x [] H1 Q) : tBM0 K T r to σ H Q := h
theorem r_reverse {H : Hp} {Q : VK} {l : Addr} {xs : List V} (h : H l = some (.lst xs)) (q : Q .non (upd H l (.lst xs.reverse))) : rReverse (.ref l) [] H Q := ⟨l, xs, rfl, rfl, h, q⟩
/-! ### sep.join(parts) -/
def jn (m : List Nat) : List (List Nat) → List Nat
  | [] => []
  | x :: xs => x ++ (xs.map (m ++ ·)).flatten
theorem glue_fold (m : Str) : ∀ (xs : List (List Nat)) (a : Array Nat), ((xs.map T).foldl (fun acc p => acc ++ m.cps ++ p.cps) a).toList = a.toList ++ (xs.map (Lt m ++ ·)).flatten
  | [], a => by simp
  | x :: xs, a => by
    rw [List.map_cons, List.foldl_cons, glue_fold m xs, List.map_cons, List.flatten_cons]
    simp [T]
theorem join_T (m : Str) (xs : List (List Nat)) : Txt.join m (xs.map T) = T (jn (Lt m) xs) := by
  refine Lt_inj ?_
  rw [Lt_T]
  unfold Txt.join Builtin.Str.glued
  cases xs with
  | nil => rfl
  | cons x xs =>
    show (List.foldl (fun acc p => acc ++ m.cps ++ p.cps) (T x).cps (xs.map T)).toList = _
    rw [glue_fold]; rfl
theorem jn_snoc (m : List Nat) {xs : List (List Nat)} (h : xs ≠ []) (y : List Nat) : jn m (xs ++ [y]) = jn m xs ++ (m ++ y) := by
  cases xs with
  | nil => exact absurd rfl h
  | cons x xs => unfold jn; simp
theorem jn_nil (xs : List (List Nat)) : jn [] xs = xs.flatten := by
  cases xs with
  | nil => rfl
  | cons x xs => unfold jn; simp
theorem joinOk {m : Str} {xs : List (List Nat)} (h : xs.flatten.length + xs.length * (Lt m).length ≤ 16777216) : JoinOk m (xs.map T) = true := by
  have e : ∀ (xs : List (List Nat)) (n : Nat), (xs.map T).foldl (fun x1 x2 => x1 + x2.length + m.length) n = n + xs.flatten.length + xs.length * (Lt m).length := by
    intro xs
    induction xs with
    | nil => intro n; simp
    | cons x xs ih =>
      intro n
      rw [List.map_cons, List.foldl_cons, ih, List.flatten_cons, List.length_append, List.length_cons, Nat.add_mul]
      have e1 : (T x).length = x.length := rfl
      have e2 : m.length = (Lt m).length := rfl
      rw [e1, e2]; omega
  unfold JoinOk Builtin.Str.tooLong
  rw [List.foldl_toArray, e, decide_eq_false (by show ¬ 0 + xs.flatten.length + xs.length * (Lt m).length > 16777216; omega)]
  rfl
def rJoinT (K : PySem.W.Frag) : V → List V → Hp → VK → Prop := fun x vs H Q => ∃ (m : Str) (p : Addr) (xs : List (List Nat)), x = .str m ∧ vs = [.ref p] ∧ H p = some (.lst (xs.map fun l => V.str (T l))) ∧ xs.flatten.length + xs.length * (Lt m).length ≤ 16777216 ∧ Q (.str (T (jn (Lt m) xs))) H
theorem vals_strs : ∀ {xs : List (List Nat)} {us : List Value}, Vals (xs.map fun l => V.str (T l)) us → ∃ ts : List (Str × Tok), us = strValues ts ∧ ts.map (fun x => x.1) = xs.map T
  | [], _, .nil => ⟨[], rfl, rfl⟩
  | x :: xs, _, .cons r t => by
    obtain ⟨ts, rfl, e⟩ := vals_strs t
    obtain ⟨u, rfl⟩ := r
    exact ⟨(T x, u) :: ts, rfl, by rw [List.map_cons, List.map_cons, e]⟩
theorem mt_joinT {X : Cx} : MtR X "str.join" (rJoinT X.K) := by
  intro pins s σ H x vs v us Q I rx rv h
  obtain ⟨m, p, xs, rfl, rfl, hH, hz, q⟩ := h
  obtain ⟨t, rfl⟩ := rx
  obtain ⟨u, rfl, ru⟩ := rv.one
  cases ru
  obtain ⟨its, r, pl, _⟩ := I.list (SqL.of hH)
  obtain ⟨ts, rfl, e⟩ := vals_strs r
  exact SC.join pl.isList e (joinOk hz) fun t' k => ⟨.str _, H, I.tok _, ⟨t', rfl⟩, by rw [join_T]; exact q⟩
theorem r_joinT {K : PySem.W.Frag} {H : Hp} {Q : VK} {m : Str} {p : Addr} {xs : List (List Nat)} (h : H p = some (.lst (xs.map fun l => V.str (T l)))) (hz : xs.flatten.length + xs.length * (Lt m).length ≤ 16777216) (q : Q (.str (T (jn (Lt m) xs))) H) : rJoinT K (.str m) [.ref p] H Q := ⟨m, p, xs, rfl, rfl, h, hz, q⟩
/-! ### groups -/
/-- the parts of a's first e signs, z signs each, g between -/
def pcs (a : List Nat) (z g e : Nat) : List (List Nat) := if h : e = 0 ∨ z = 0 then [] else pcs a z g (e - z - g) ++ [(a.take e).drop (e - z)]
termination_by e
decreasing_by omega
theorem pcs_zero (a : List Nat) (z g : Nat) : pcs a z g 0 = [] := by rw [pcs]; simp
theorem pcs_pos {a : List Nat} {z g e : Nat} (hz : 0 < z) (h : 0 < e) : pcs a z g e = pcs a z g (e - z - g) ++ [(a.take e).drop (e - z)] := by
  rw [pcs]; rw [dif_neg (by omega)]
theorem pcs_bd {a : List Nat} {z g : Nat} (hz : 0 < z) : ∀ (m e : Nat), e ≤ m → (pcs a z g e).flatten.length ≤ e ∧ (pcs a z g e).length ≤ e
  | 0, e, h => by rw [show e = 0 by omega, pcs_zero]; simp
  | m + 1, e, h => by
    rcases Nat.eq_zero_or_pos e with p | p
    · rw [p, pcs_zero]; simp
    · obtain ⟨i1, i2⟩ := pcs_bd (a := a) (g := g) hz m (e - z - g) (by omega)
      rw [pcs_pos hz p]
      simp only [List.flatten_append, List.length_append, List.flatten_cons, List.flatten_nil, List.append_nil, List.length_drop, List.length_take, List.length_cons, List.length_nil]
      omega
/-- groups counted from the front -/
def RJ (z m : Nat) (b : List Nat) : List Nat := if h : b.length ≤ z ∨ z = 0 then b else b.take z ++ m :: RJ z m (b.drop z)
termination_by b.length
decreasing_by rw [List.length_drop]; omega
theorem RJ_le {z m : Nat} {b : List Nat} (h : b.length ≤ z) : RJ z m b = b := by rw [RJ]; simp [h]
theorem RJ_zero {m : Nat} {b : List Nat} : RJ 0 m b = b := by rw [RJ]; simp
theorem RJ_gt {z m : Nat} {b : List Nat} (hz : 0 < z) (h : z < b.length) : RJ z m b = b.take z ++ m :: RJ z m (b.drop z) := by
  rw [RJ]; rw [dif_neg (by omega)]
theorem RJ_len {z m : Nat} : ∀ (k : Nat) (b : List Nat), b.length ≤ k → b.length ≤ (RJ z m b).length ∧ (RJ z m b).length ≤ 2 * b.length
  | 0, b, h => by rw [RJ_le (by omega)]; omega
  | k + 1, b, h => by
    rcases Nat.eq_zero_or_pos z with p | p
    · subst p; rw [RJ_zero]; omega
    · rcases Nat.lt_or_ge z b.length with q | q
      · have ih := RJ_len (z := z) (m := m) k (b.drop z) (by rw [List.length_drop]; omega)
        rw [List.length_drop] at ih
        rw [RJ_gt p q, List.length_append, List.length_take, List.length_cons]
        omega
      · rw [RJ_le q]; omega
/-- one sign more -/
theorem RJ_snoc {z m x : Nat} (hz : 0 < z) : ∀ (k : Nat) (c : List Nat), c.length ≤ k → RJ z m (c ++ [x]) = RJ z m c ++ ((if 0 < c.length ∧ c.length % z = 0 then [m] else []) ++ [x])
  | 0, c, h => by
    have e : c = [] := List.eq_nil_of_length_eq_zero (by omega)
    subst e
    rw [RJ_le (by simp; omega), RJ_le (by simp)]; simp
  | k + 1, c, h => by
    rcases Nat.lt_trichotomy c.length z with p | p | p
    · rw [RJ_le (by simp; omega), RJ_le (by omega), if_neg (by
        intro q; rw [Nat.mod_eq_of_lt p] at q; omega)]; simp
    · rw [RJ_gt hz (by simp; omega), RJ_le (b := c) (by omega), if_pos ⟨by omega, by rw [p]; exact Nat.mod_self z⟩]
      rw [List.take_append_of_le_length (by omega), List.take_of_length_le (by omega), List.drop_append_of_le_length (by omega), List.drop_of_length_le (by omega), RJ_le (by simp; omega)]
      simp
    · rw [RJ_gt hz (by simp; omega), RJ_gt (b := c) hz p]
      rw [List.take_append_of_le_length (by omega), List.drop_append_of_le_length (by omega), RJ_snoc hz k (c.drop z) (by rw [List.length_drop]; omega), List.length_drop]
      have e : (c.length - z) % z = c.length % z := (Nat.mod_eq_sub_mod (by omega)).symm
      rw [e, List.append_assoc, List.cons_append]
      have e2 : (0 < c.length - z ∧ c.length % z = 0) = (0 < c.length ∧ c.length % z = 0) := propext ⟨fun q => ⟨by omega, q.2⟩, fun q => ⟨by omega, q.2⟩⟩
      simp only [e2]
theorem jn_pcs {a : List Nat} {z m : Nat} (hz : 0 < z) : ∀ (k e : Nat), e ≤ k → e ≤ a.length → (jn [m] (pcs a z 0 e)).reverse = RJ z m (a.take e).reverse
  | 0, e, h, _ => by rw [show e = 0 by omega, pcs_zero, RJ_le (by simp)]; simp [jn]
  | k + 1, e, h, ha => by
    rcases Nat.eq_zero_or_pos e with p | p
    · rw [p, pcs_zero, RJ_le (by simp)]; simp [jn]
    · rw [pcs_pos hz p, Nat.sub_zero]
      have le : (a.take e).length = e := by rw [List.length_take]; omega
      rcases Nat.lt_or_ge z e with q | q
      · have ih := jn_pcs (a := a) (m := m) hz k (e - z) (by omega) (by omega)
        have ne : pcs a z 0 (e - z) ≠ [] := by rw [pcs_pos hz (by omega)]; simp
        rw [jn_snoc _ ne, List.reverse_append, List.reverse_append, ih, RJ_gt (b := (a.take e).reverse) hz (by rw [List.length_reverse]; omega), List.take_reverse, List.drop_reverse, le]
        rw [List.take_take, Nat.min_eq_left (show e - z ≤ e by omega)]
        simp
      · rw [show e - z = 0 by omega, pcs_zero, RJ_le (by rw [List.length_reverse]; omega)]
        simp [jn]
def gr (z m : Nat) (a : List Nat) : List Nat := (RJ z m a.reverse).reverse
theorem gr_jn {a : List Nat} {z m : Nat} (hz : 0 < z) : jn [m] (pcs a z 0 a.length) = gr z m a := by
  have := jn_pcs (m := m) hz a.length a.length (Nat.le_refl _) (Nat.le_refl _)
  rw [List.take_length] at this
  unfold gr
  rw [← this, List.reverse_reverse]
theorem gr_len {a : List Nat} {z m : Nat} : a.length ≤ (gr z m a).length ∧ (gr z m a).length ≤ 2 * a.length := by
  have := RJ_len (z := z) (m := m) a.reverse.length a.reverse (Nat.le_refl _)
  unfold gr; rw [List.length_reverse] at this ⊢; exact this
/-- the marks taken out -/
def UJ (z : Nat) (c : List Nat) : List Nat := if h : c.length = 0 ∨ z = 0 then [] else c.take z ++ UJ z (c.drop (z + 1))
termination_by c.length
decreasing_by rw [List.length_drop]; omega
theorem UJ_nil {z : Nat} : UJ z [] = [] := by rw [UJ]; simp
theorem UJ_pos {z : Nat} {c : List Nat} (hz : 0 < z) (h : 0 < c.length) : UJ z c = c.take z ++ UJ z (c.drop (z + 1)) := by rw [UJ]; rw [dif_neg (by omega)]
theorem UJ_RJ {z m : Nat} (hz : 0 < z) : ∀ (k : Nat) (b : List Nat), b.length ≤ k → UJ z (RJ z m b) = b
  | 0, b, h => by rw [List.eq_nil_of_length_eq_zero (show b.length = 0 by omega), RJ_le (by simp), UJ_nil]
  | k + 1, b, h => by
    rcases Nat.eq_zero_or_pos b.length with p | p
    · rw [List.eq_nil_of_length_eq_zero p, RJ_le (by simp), UJ_nil]
    · rcases Nat.lt_or_ge z b.length with q | q
      · rw [RJ_gt hz q, UJ_pos hz (by rw [List.length_append, List.length_cons]; omega)]
        have l1 : (b.take z).length = z := by rw [List.length_take]; omega
        rw [List.take_append_of_le_length (by omega), List.take_of_length_le (by omega), List.drop_append, l1, List.drop_of_length_le (by omega)]
        rw [show z + 1 - z = 1 by omega]
        show b.take z ++ UJ z (RJ z m (b.drop z)) = b
        rw [UJ_RJ hz k (b.drop z) (by rw [List.length_drop]; omega), List.take_append_drop]
      · rw [RJ_le q, UJ_pos hz p, List.take_of_length_le q, List.drop_of_length_le (by omega), UJ_nil, List.append_nil]
theorem fl_pcs {a : List Nat} {z : Nat} (hz : 0 < z) : ∀ (k e : Nat), e ≤ k → e ≤ a.length → (pcs a z 1 e).flatten.reverse = UJ z (a.take e).reverse
  | 0, e, h, _ => by rw [show e = 0 by omega, pcs_zero]; simp [UJ_nil]
  | k + 1, e, h, ha => by
    rcases Nat.eq_zero_or_pos e with p | p
    · rw [p, pcs_zero]; simp [UJ_nil]
    · have le : (a.take e).length = e := by rw [List.length_take]; omega
      have ih := fl_pcs (a := a) hz k (e - z - 1) (by omega) (by omega)
      rw [pcs_pos hz p, List.flatten_append, List.reverse_append, ih, UJ_pos (c := (a.take e).reverse) hz (by rw [List.length_reverse]; omega), List.take_reverse, List.drop_reverse, le, List.take_take, Nat.min_eq_left (show e - (z + 1) ≤ e by omega)]
      simp
      rw [show e - (z + 1) = e - z - 1 by omega]
def ug (z : Nat) (a : List Nat) : List Nat := if z = 0 then a else (UJ z a.reverse).reverse
theorem ug_fl {a : List Nat} {z : Nat} (hz : 0 < z) : (pcs a z 1 a.length).flatten = ug z a := by
  have := fl_pcs hz a.length a.length (Nat.le_refl _) (Nat.le_refl _)
  rw [List.take_length] at this
  unfold ug
  rw [if_neg (by omega), ← this, List.reverse_reverse]
theorem ug_gr (z m : Nat) (a : List Nat) : ug z (gr z m a) = a := by
  unfold ug gr
  split
  · rename_i h; subst h; rw [RJ_zero, List.reverse_reverse]
  · rename_i h
    rw [List.reverse_reverse, UJ_RJ (by omega) a.reverse.length a.reverse (Nat.le_refl _), List.reverse_reverse]
theorem gr_zero {m : Nat} {a : List Nat} : gr 0 m a = a := by unfold gr; rw [RJ_zero, List.reverse_reverse]
/-- walked from the end: a turn -/
theorem gr_turn {z m k : Nat} {a : List Nat} (hk : k < a.length) : gr z m (a.drop (a.length - (k + 1))) = a.getD (a.length - 1 - k) 0 :: ((if 0 < z ∧ 0 < k ∧ k % z = 0 then [m] else []) ++ gr z m (a.drop (a.length - k))) := by
  have e : a.drop (a.length - (k + 1)) = a.getD (a.length - 1 - k) 0 :: a.drop (a.length - k) := by
    rw [List.drop_eq_getElem_cons (by omega), List.getD_eq_getElem?_getD, List.getElem?_eq_getElem (by omega)]
    congr 2 <;> omega
  have lk : (a.drop (a.length - k)).length = k := by rw [List.length_drop]; omega
  rcases Nat.eq_zero_or_pos z with p | p
  · subst p; rw [gr_zero, gr_zero, e, if_neg (by omega)]; rfl
  · rw [e]
    unfold gr
    rw [List.reverse_cons, RJ_snoc p _ _ (Nat.le_refl _), List.length_reverse, lk]
    by_cases q : 0 < k ∧ k % z = 0
    · rw [if_pos q, if_pos ⟨p, q⟩]; simp
    · rw [if_neg q, if_neg (fun h => q h.2)]; simp
end L2
namespace L2
open PySem PySem.Spec PyProof.Rows
theorem r_ixTs {K : PySem.W.Frag} {H : Hp} {Q : VK} {p : Addr} {ts : List (List Nat)} {i : Int} (h : SqL K H p (ts.map fun l => V.str (T l))) (h0 : 0 ≤ i) (h1 : i < ts.length) (q : Q (.str (T (ts.getD i.toNat []))) H) : rIxL K (.ref p) (.int i) H Q := by
  refine r_ixAll h h0 (by rw [List.length_map]; exact h1) fun x hx => ?_
  have h2 : i.toNat < ts.length := by omega
  rw [List.getElem?_map, List.getElem?_eq_getElem h2] at hx
  cases hx
  rw [List.getD_eq_getElem?_getD, List.getElem?_eq_getElem h2] at q
  exact q
theorem getD_mem {ts : List (List Nat)} {i : Nat} (h : i < ts.length) : ts.getD i [] ∈ ts := by
  rw [List.getD_eq_getElem?_getD, List.getElem?_eq_getElem h]; exact List.getElem_mem h
end L2

set_option Elab.async false
set_option linter.all false
set_option maxRecDepth 100000
set_option maxHeartbeats 400000
namespace L2
open PySem PySem.Spec PyProof.Rows
section
variable {X : Cx} {H : Hp} {Q : VK} {K : PySem.W.Frag}
/-! ### is None -/
def rIsN : R2 := fun x y H Q => y = .non ∧ Q (.bl (decide (x = .non))) H
theorem op_isN2 : OpR X (compareOp .Is) rIsN := op_isN
theorem r_isNN (q : Q (.bl true) H) : rIsN .non .non H Q := ⟨rfl, by rw [decide_eq_true rfl]; exact q⟩
theorem r_isNI {i : Int} (q : Q (.bl false) H) : rIsN (.int i) .non H Q := ⟨rfl, by rw [decide_eq_false (fun z => nomatch z)]; exact q⟩
theorem r_isNS {x : Str} (q : Q (.bl false) H) : rIsN (.str x) .non H Q := ⟨rfl, by rw [decide_eq_false (fun z => nomatch z)]; exact q⟩
/-- a text so many times, told by its signs -/
theorem rTT_mul {a : List Nat} {n : Int} (h1 : n < 16777216) (h2 : -16777216 < n) (h3 : a.length * n.toNat ≤ 16777216) (q : Q (.str (T (List.replicate n.toNat a).flatten)) H) : rMulT (.str (T a)) (.int n) H Q := ⟨T a, n, rfl, rfl, h1, h2, h3, q⟩
/-- things that are no texts -/
inductive NT (H : Hp) : V → Prop where
  | int (i : Int) : NT H (.int i)
  | non : NT H .non
  | bl (b : Bool) : NT H (.bl b)
  | lst {p : Addr} {xs : List V} (e : H p = some (.lst xs)) : NT H (.ref p)
  | tup {p : Addr} {xs : List V} (e : H p = some (.tup xs)) : NT H (.ref p)
  | dct {p : Addr} (e : H p = some (dctO p)) : NT H (.ref p)
theorem NT.same {H H' : Hp} {v : V} (h : NT H v) (g : Same H H') : NT H' v := by
  cases h with
  | int i => exact .int i
  | non => exact .non
  | bl b => exact .bl b
  | lst e => exact .lst (g _ _ e)
  | tup e => exact .tup (g _ _ e)
  | dct e => exact .dct (g _ _ e)
theorem r_isi_nt {v : V} (h : NT H v) (q : Q (.bl false) H) : rIsiO K [v, .ty "str"] H Q := by
  cases h with
  | int i => exact r_isiO_int (kit_int_str _) q
  | non => exact r_isiO_non (kit_NoneType_str _) q
  | bl b => exact r_isiO_bl (kit_bool_str _) q
  | lst e => exact r_isiO_lst e (kit_list_str _) q
  | tup e => exact r_isiO_tup e (kit_tuple_str _) q
  | dct e => exact r_isiO_dct e (kit_dict_str _) q
/-- signs below 127 -/
def Asc (l : List Nat) : Prop := ∀ c ∈ l, c < 127
theorem Asc.nil : Asc [] := fun _ h => nomatch h
theorem Asc.app {l m : List Nat} (h : Asc l) (h' : Asc m) : Asc (l ++ m) := fun c hc => (List.mem_append.mp hc).elim (h c) (h' c)
theorem Asc.one {c : Nat} (h : c < 127) : Asc [c] := fun d hd => by rw [List.mem_singleton.mp hd]; exact h
theorem Asc.take {l : List Nat} (h : Asc l) (n : Nat) : Asc (l.take n) := fun c hc => h c (List.mem_of_mem_take hc)
theorem Asc.drop {l : List Nat} (h : Asc l) (n : Nat) : Asc (l.drop n) := fun c hc => h c (List.mem_of_mem_drop hc)
theorem Asc.rep {l : List Nat} (h : Asc l) (n : Nat) : Asc (List.replicate n l).flatten := fun c hc => by
  obtain ⟨m, hm, hc⟩ := List.mem_flatten.mp hc
  rw [List.eq_of_mem_replicate hm] at hc
  exact h c hc
theorem FigB.asc {b : Int} {l : List Nat} (h : FigB b l) : Asc l := fun c hc => (h c hc).1
theorem FigB.snoc {b : Int} {l : List Nat} {i c : Nat} (h : FigB b (l.take i)) (hi : l[i]? = some c) (h1 : c < 127) (h2 : 0 ≤ fv c) (h3 : fv c < b) : FigB b (l.take (i + 1)) := by
  rw [List.take_succ, hi]
  refine h.app fun d hd => ?_
  rw [List.mem_singleton.mp hd]; exact ⟨h1, h2, h3⟩
theorem rep_len (n : Nat) (l : List Nat) : (List.replicate n l).flatten.length = n * l.length := by simp
end
end L2
namespace L2
open PySem PySem.Spec PyProof.Rows
/-- a written text, told by its signs -/
theorem pe_strT {X : Cx} {x : Str} {l : List Nat} {j : Nat} {pos : Pos} (e : x = T l) : PE X (.Constant (.str x) j pos) (tC (.str (T l))) := by
  rw [← e]; exact pe_str
end L2

set_option Elab.async false
set_option linter.all false
set_option maxRecDepth 100000
set_option maxHeartbeats 400000
namespace L2
open PySem PySem.Spec PyProof.Rows
/-! ### which texts are grouped so -/
theorem UJ_snoc {z x : Nat} (hz : 0 < z) : ∀ (k : Nat) (c : List Nat), c.length ≤ k → UJ z (c ++ [x]) = UJ z c ++ (if c.length % (z + 1) = z then [] else [x])
  | 0, c, h => by
    have e : c = [] := List.eq_nil_of_length_eq_zero (by omega)
    subst e
    rw [UJ_pos hz (by simp), UJ_nil, if_neg (by simp; omega), List.nil_append, List.take_of_length_le (by simp; omega), List.drop_of_length_le (by simp), UJ_nil]; simp
  | k + 1, c, h => by
    rcases Nat.eq_zero_or_pos c.length with p0 | p0
    · have e : c = [] := List.eq_nil_of_length_eq_zero p0
      subst e
      rw [UJ_pos hz (by simp), UJ_nil, if_neg (by simp; omega), List.nil_append, List.take_of_length_le (by simp; omega), List.drop_of_length_le (by simp), UJ_nil]; simp
    rw [UJ_pos hz (by simp), UJ_pos hz p0]
    rcases Nat.lt_trichotomy c.length z with p | p | p
    · rw [List.take_of_length_le (by simp; omega), List.take_of_length_le (by omega), List.drop_of_length_le (by simp; omega), List.drop_of_length_le (by omega), UJ_nil, if_neg (by rw [Nat.mod_eq_of_lt (by omega)]; omega)]; simp
    · rw [List.take_append_of_le_length (by omega), List.drop_of_length_le (by simp; omega), List.drop_of_length_le (by omega), UJ_nil, if_pos (by rw [Nat.mod_eq_of_lt (by omega)]; exact p)]; simp
    · rw [List.take_append_of_le_length (by omega), List.drop_append_of_le_length (by omega), UJ_snoc hz k (c.drop (z + 1)) (by rw [List.length_drop]; omega), List.length_drop, ← Nat.mod_eq_sub_mod (by omega), List.append_assoc]
/-- walked from the front: a turn -/
theorem ug_turn {z k : Nat} {t : List Nat} (hk : k < t.length) : ug z (t.drop k) = (if 0 < z ∧ (t.length - 1 - k) % (z + 1) = z then [] else [t.getD k 0]) ++ ug z (t.drop (k + 1)) := by
  have e : t.drop k = t.getD k 0 :: t.drop (k + 1) := by
    rw [List.drop_eq_getElem_cons hk, List.getD_eq_getElem?_getD, List.getElem?_eq_getElem hk]; rfl
  have lk : (t.drop (k + 1)).length = t.length - 1 - k := by rw [List.length_drop]; omega
  unfold ug
  rcases Nat.eq_zero_or_pos z with p | p
  · subst p; rw [if_pos rfl, if_pos rfl, if_neg (by omega), e]; rfl
  · simp only [if_neg (show ¬ z = 0 by omega)]
    rw [e, List.reverse_cons, UJ_snoc p _ _ (Nat.le_refl _), List.length_reverse, lk]
    by_cases q : (t.length - 1 - k) % (z + 1) = z
    · rw [if_pos q, if_pos ⟨p, q⟩]; simp
    · rw [if_neg q, if_neg (fun h => q h.2)]; simp
theorem RJ_length {z m : Nat} (hz : 0 < z) : ∀ (k : Nat) (b : List Nat), b.length ≤ k → 1 ≤ b.length → (RJ z m b).length = b.length + (b.length - 1) / z
  | 0, b, h, h1 => by omega
  | k + 1, b, h, h1 => by
    rcases Nat.lt_or_ge z b.length with q | q
    · have ih := RJ_length (m := m) hz k (b.drop z) (by rw [List.length_drop]; omega) (by rw [List.length_drop]; omega)
      rw [List.length_drop] at ih
      rw [RJ_gt hz q, List.length_append, List.length_take, List.length_cons, ih]
      have e : (b.length - 1) / z = (b.length - z - 1) / z + 1 := by
        rw [Nat.div_eq_sub_div hz (by omega), show b.length - 1 - z = b.length - z - 1 by omega]
      omega
    · rw [RJ_le q, Nat.div_eq_of_lt (by omega)]; omega
theorem RJ_marks {z m : Nat} (hz : 0 < z) : ∀ (k : Nat) (b : List Nat), b.length ≤ k → ∀ j, j < (RJ z m b).length → j % (z + 1) = z → (RJ z m b).getD j 0 = m
  | 0, b, h, j, hj, he => by rw [RJ_le (by omega)] at hj; omega
  | k + 1, b, h, j, hj, he => by
    rcases Nat.lt_or_ge z b.length with q | q
    · rw [RJ_gt hz q] at hj ⊢
      have l1 : (b.take z).length = z := by rw [List.length_take]; omega
      rw [List.length_append, List.length_cons, l1] at hj
      rcases Nat.lt_trichotomy j z with p | p | p
      · rw [Nat.mod_eq_of_lt (by omega)] at he; omega
      · rw [getD_app2 (by omega), l1, p, Nat.sub_self]; rfl
      · rw [getD_app2 (by omega), l1, show j - z = (j - (z + 1)) + 1 by omega]
        show (RJ z m (b.drop z)).getD (j - (z + 1)) 0 = m
        exact RJ_marks hz k _ (by rw [List.length_drop]; omega) _ (by omega) (by rw [← Nat.mod_eq_sub_mod (by omega)]; exact he)
    · rw [RJ_le q] at hj
      rw [Nat.mod_eq_of_lt (by omega)] at he; omega
theorem UJ_pos_len {z : Nat} {c : List Nat} (hz : 0 < z) (h : 0 < c.length) : 0 < (UJ z c).length := by
  rw [UJ_pos hz h, List.length_append, List.length_take]; omega
theorem RJ_UJ {z m : Nat} (hz : 0 < z) : ∀ (k : Nat) (c : List Nat), c.length ≤ k → c.length % (z + 1) ≠ 0 → (∀ j, j < c.length → j % (z + 1) = z → c.getD j 0 = m) → RJ z m (UJ z c) = c
  | 0, c, h, h0, _ => by rw [show c.length = 0 by omega] at h0; simp at h0
  | k + 1, c, h, h0, hm => by
    have p0 : 0 < c.length := by
      rcases Nat.eq_zero_or_pos c.length with p | p
      · rw [p] at h0; simp at h0
      · exact p
    rcases Nat.lt_trichotomy c.length (z + 1) with q | q | q
    · rw [UJ_pos hz p0, List.take_of_length_le (by omega), List.drop_of_length_le (by omega), UJ_nil, List.append_nil, RJ_le (by omega)]
    · rw [q, Nat.mod_self] at h0; exact absurd rfl h0
    · have l1 : (c.take z).length = z := by rw [List.length_take]; omega
      have l2 : (c.drop (z + 1)).length = c.length - (z + 1) := List.length_drop ..
      have ih := RJ_UJ (m := m) hz k (c.drop (z + 1)) (by omega) (by rw [l2, ← Nat.mod_eq_sub_mod (by omega)]; exact h0) (fun j hj he => by
        have z1 := hm (z + 1 + j) (by omega) (by rw [Nat.add_mod_left]; exact he)
        rw [List.getD_eq_getElem?_getD] at z1 ⊢
        rw [List.getElem?_drop]; exact z1)
      have up := UJ_pos_len (c := c.drop (z + 1)) hz (by omega)
      rw [UJ_pos hz p0, RJ_gt hz (by rw [List.length_append, l1]; omega), List.take_append_of_le_length (by omega), List.take_of_length_le (by omega), List.drop_append_of_le_length (by omega), List.drop_of_length_le (by omega), List.nil_append, ih]
      have cz := hm z (by omega) (Nat.mod_eq_of_lt (by omega))
      rw [List.getD_eq_getElem?_getD, List.getElem?_eq_getElem (by omega)] at cz
      have cz' : c[z] = m := cz
      rw [← cz', ← List.drop_eq_getElem_cons, List.take_append_drop]
/-- a text is grouped so -/
def GG (z m : Nat) (t : List Nat) : Prop := 1 ≤ (ug z t).length ∧ (ug z t).length ≤ 40 ∧ gr z m (ug z t) = t
theorem GG.len {z m : Nat} {t : List Nat} (h : GG z m t) : (ug z t).length + (if 0 < z then ((ug z t).length - 1) / z else 0) = t.length := by
  have e := congrArg List.length h.2.2
  rcases Nat.eq_zero_or_pos z with p | p
  · subst p; rw [gr_zero] at e; simp; exact e
  · unfold gr at e
    rw [List.length_reverse, RJ_length p _ _ (Nat.le_refl _) (by rw [List.length_reverse]; exact h.1), List.length_reverse] at e
    rw [if_pos p]; exact e
theorem getD_rev {l : List Nat} {j : Nat} (h : j < l.length) : l.reverse.getD j 0 = l.getD (l.length - 1 - j) 0 := by
  rw [List.getD_eq_getElem?_getD, List.getD_eq_getElem?_getD, List.getElem?_reverse h]
theorem GG.marks {z m : Nat} {t : List Nat} (h : GG z m t) (hz : 0 < z) {k : Nat} (hk : k < t.length) (he : (t.length - 1 - k) % (z + 1) = z) : t.getD k 0 = m := by
  have e := h.2.2
  unfold gr at e
  have e2 : RJ z m (ug z t).reverse = t.reverse := by rw [← e, List.reverse_reverse, e]
  have q := RJ_marks (m := m) hz _ (ug z t).reverse (Nat.le_refl _) (t.length - 1 - k) (by rw [e2, List.length_reverse]; omega) he
  rw [e2, getD_rev (by omega)] at q
  rw [show t.length - 1 - (t.length - 1 - k) = k by omega] at q
  exact q
theorem many_inj {z a b : Nat} (h1 : 1 ≤ a) (h2 : 1 ≤ b) (h : a + (a - 1) / z = b + (b - 1) / z) : a = b := by
  rcases Nat.lt_trichotomy a b with p | p | p
  · have := Nat.div_le_div_right (c := z) (show a - 1 ≤ b - 1 by omega); omega
  · exact p
  · have := Nat.div_le_div_right (c := z) (show b - 1 ≤ a - 1 by omega); omega
/-- the length and the marks' places tell it -/
theorem GG.of {z m many : Nat} {t : List Nat} (h1 : 1 ≤ many) (h2 : many ≤ 40) (hl : many + (if 0 < z then (many - 1) / z else 0) = t.length) (hm : 0 < z → ∀ k, k < t.length → (t.length - 1 - k) % (z + 1) = z → t.getD k 0 = m) : GG z m t := by
  rcases Nat.eq_zero_or_pos z with p | p
  · subst p
    have e : ug 0 t = t := rfl
    unfold GG; rw [e, gr_zero]; simp at hl; exact ⟨by omega, by omega, rfl⟩
  · rw [if_pos p] at hl
    have hn : t.length % (z + 1) ≠ 0 := by
      have d := Nat.div_add_mod (many - 1) z
      have r := Nat.mod_lt (many - 1) p
      generalize (many - 1) / z = q at *
      generalize (many - 1) % z = r' at *
      have e : t.length = r' + 1 + (z + 1) * q := by rw [Nat.add_mul, Nat.one_mul]; omega
      rw [e, Nat.add_mul_mod_self_left, Nat.mod_eq_of_lt (by omega)]; omega
    have rj := RJ_UJ (m := m) p _ t.reverse (Nat.le_refl _) (by rw [List.length_reverse]; exact hn) (fun j hj he => by
      rw [List.length_reverse] at hj
      rw [getD_rev hj]
      exact hm p _ (by omega) (by rw [show t.length - 1 - (t.length - 1 - j) = j by omega]; exact he))
    have e : ug z t = (UJ z t.reverse).reverse := by unfold ug; rw [if_neg (by omega)]
    have tp : 0 < t.length := Nat.lt_of_lt_of_le (show 0 < many by omega) (by rw [← hl]; exact Nat.le_add_right _ _)
    have up := UJ_pos_len (c := t.reverse) p (by rw [List.length_reverse]; exact tp)
    have ln := RJ_length (m := m) p _ (UJ z t.reverse) (Nat.le_refl _) up
    rw [rj, List.length_reverse] at ln
    have em := many_inj (z := z) (a := (UJ z t.reverse).length) (b := many) up h1 (by omega)
    refine ⟨by rw [e, List.length_reverse]; omega, by rw [e, List.length_reverse]; omega, ?_⟩
    rw [e]; unfold gr; rw [List.reverse_reverse, rj, List.reverse_reverse]
theorem ug_len {z : Nat} {t : List Nat} : (ug z t).length ≤ t.length := by
  rcases Nat.eq_zero_or_pos z with p | p
  · subst p; exact Nat.le_refl _
  · rw [← ug_fl p]; exact (pcs_bd p _ _ (Nat.le_refl _)).1
end L2
namespace L2
open PySem PySem.Spec PyProof.Rows
section
variable {σ : St} {H : Hp} {Q : VK} {D : Ends} {K : PySem.W.Frag}
/-- a for over a range from a number on -/
def kForR2 (g : TG) (tb : TS) (D : Ends) (σ : St) (vs : List V) (H : Hp) : Prop := ∃ i j : Int, vs = [.int i, .int j] ∧ (-(2 ^ 62) ≤ i ∧ i < 2 ^ 62 ∧ -(2 ^ 62) ≤ j ∧ j < 2 ^ 62) ∧ ∃ W : Nat → Nat → St → Hp → Prop, (∃ m, W 0 m σ H) ∧ ∀ k m σ H, W k m σ H →
  ((Itr i (j - i).toNat).stop k H ∧ D.nx σ H) ∨ ((Itr i (j - i).toNat).go k H ∧ ∃ N : St → Hp → Prop, (∀ σ' H', N σ' H' → ∃ m', m' < m ∧ W (k + 1) m' σ' H') ∧ ∀ x H', (Itr i (j - i).toNat).yld k H x H' → g x σ H' fun σ2 H2 => tb { D with nx := N, ct := N, bk := D.nx } σ2 H2)
theorem r_forR2 {ta : TA} {g : TG} {tb : TS} (h : ta σ H (kForR2 g tb D σ)) : tFor (iRng2 ta) g tb D σ H := h
theorem r_kForR2 {g : TG} {tb : TS} {i j : Int} (hb : -(2 ^ 62) ≤ i ∧ i < 2 ^ 62 ∧ -(2 ^ 62) ≤ j ∧ j < 2 ^ 62) (Pv : Nat → St → Hp → Prop) (h0 : Pv 0 σ H)
    (hs : ∀ k σ H, k < (j - i).toNat → Pv k σ H → g (.int (i + k)) σ H fun σ2 H2 => tb { D with nx := Pv (k + 1), ct := Pv (k + 1), bk := D.nx } σ2 H2) (hd : ∀ σ H, Pv (j - i).toNat σ H → D.nx σ H) : kForR2 g tb D σ [.int i, .int j] H := ⟨i, j, rfl, hb, for_range Pv h0 hs hd⟩
end
end L2

set_option Elab.async false
set_option linter.all false
set_option maxRecDepth 100000
set_option maxHeartbeats 400000
namespace L2
open PySem PySem.Spec PyProof.Rows
/-! ### a module's dict of texts, and its tuples -/
/-- in the module's dict at d the text z has the object at v -/
def KD (w : World) (K : PySem.W.Frag) (d : Addr) (z : Str) (v : Addr) : Prop := ∃ (es : Array DictEntry) (n : Nat), K.lookup d = some { cls := .type "dict", data := .dict es n } ∧ (∀ e, e ∈ es → ∃ k, Value.isStrOf k e.key = true ∧ e.hash = hashStr w k) ∧ findBy Value.isStrOf es z = some (.ref v)
def rIxD (w : World) (K : PySem.W.Frag) : R2 := fun x y H Q => ∃ d z v, x = .ref d ∧ y = .str z ∧ KD w K d z v ∧ Q (.ref v) H
section
variable {X : Cx} {H : Hp} {Q : VK} {K : PySem.W.Frag} {w : World}
theorem ix_kd : IxR X (rIxD X.w X.K) := by
  intro value slice pins s σ H x y v u Q I rx ry h hs
  obtain ⟨d, z, p, rfl, rfl, ⟨es, n, lk, ks, f⟩, q⟩ := h
  cases rx
  obtain ⟨t, rfl⟩ := ry
  have ho := I.kIn d _ lk
  have fin : ∀ k, EP X pins σ Q (.ref p) { s with toks := k } := fun k => ⟨.ref p, H, I.tok _, rfl, q⟩
  exact subscriptTail_builtinR (x := .ref p) ⟨_, ho, rfl⟩ slot_dict_getitem.lookup
    (wpAny_getItem_of (knd := PySem.strKind X.prog X.w) (k := z) (f := fun k => findBy Value.isStrOf es k) (Q := fun r s' => r = .ref p ∧ EP X pins σ Q r s') (by simp [PySem.strKind, Value.isStrOf]) ⟨_, es, n, ho, ⟨rfl, rfl, rfl⟩, rfl, ks, fun k => rfl⟩ f ⟨rfl, fin _⟩) hs
theorem r_ixD {d v : Addr} {z : Str} (h : KD w K d z v) (q : Q (.ref v) H) : rIxD w K (.ref d) (.str z) H Q := ⟨d, z, v, rfl, rfl, h, q⟩
/-! ### tuples, wherever they stand -/
theorem r_ixQ {p : Addr} {xs : List V} {i : Int} {v : V} (h : SqT K H p xs) (e : atI xs i = some v) (q : Q v H) : rIxT K (.ref p) (.int i) H Q := ⟨p, xs, i, v, rfl, rfl, h, e, q⟩
theorem r_lenQ {p : Addr} {xs : List V} (h : SqT K H p xs) (q : Q (.int xs.length) H) : rLenS K [.ref p] H Q := ⟨p, xs, rfl, .inr h, q⟩
theorem r_lenQ2 {p : Addr} {a b : V} (h : SqT K H p [a, b]) (q : Q (.int 2) H) : rLenS K [.ref p] H Q := ⟨p, [a, b], rfl, .inr h, q⟩
theorem SqT.same {H H' : Hp} {p : Addr} {xs : List V} (h : SqT K H p xs) (e : Same H H') : SqT K H' p xs := by
  rcases h with h | h
  · rcases h with h | ⟨o, h⟩
    · exact .inl (.inl (e _ _ h))
    · exact .inl (.inr ⟨o, e _ _ h⟩)
  · exact .inr h
def rIsiQ (K : PySem.W.Frag) : List V → Hp → VK → Prop := fun vs H Q => ∃ (p : Addr) (xs : List V) (T : String) (b : Bool), vs = [.ref p, .ty T] ∧ SqT K H p xs ∧ PySem.W.kitOne K (.type "tuple") (.type T) = some b ∧ Q (.bl b) H
theorem call_isiQ : CallR X (.builtin "isinstance") (rIsiQ X.K) := by
  intro pins s σ H xs us Q I r h
  obtain ⟨p, ys, T, b, rfl, hx, e, q⟩ := h
  obtain ⟨v, w, rfl, rx, rw'⟩ := vals2 r
  cases rx
  have : w = .type T := rw'
  subst this
  obtain ⟨its, _, pl, _⟩ := I.tuple hx
  obtain ⟨o, h1, h2, _⟩ := pl
  exact PySem.W.kia_one PySem.W.kitx_tuple I.kIn ⟨o, h1, h2⟩ e (fun z => nomatch z) fun tk => ⟨.bl b, H, I.tok _, rfl, q⟩
theorem r_isiQ {p : Addr} {xs : List V} (h : SqT K H p xs) (q : Q (.bl true) H) : rIsiQ K [.ref p, .ty "tuple"] H Q := ⟨p, xs, "tuple", true, rfl, h, kit_tuple_tuple K, q⟩
/-! ### != of two tuples -/
def rNeT (K : PySem.W.Frag) : R2 := fun x y H Q => ∃ p q xs ys, x = .ref p ∧ y = .ref q ∧ SqT K H p xs ∧ SqT K H q ys ∧ xs.all flatV = true ∧ ys.all flatV = true ∧ Q (.bl (!eqVs xs ys)) H
theorem op_neT (hu : X.A.units < cLine) : OpR X (compareOp .NotEq) (rNeT X.K) := by
  intro pins s σ H x y v u Q I rx ry h
  obtain ⟨p, q, xs, ys, rfl, rfl, hx, hy, fx, fy, k⟩ := h
  cases rx; cases ry
  obtain ⟨its, r, pl, hz⟩ := I.tuple hx
  obtain ⟨its2, r2, pl2, hz2⟩ := I.tuple hy
  have e1 : its.toArray.size = xs.length := by simp [r.length]
  have e2 : its2.toArray.size = ys.length := by simp [r2.length]
  refine SeqAt.RcNeAt.tuples (e := fun j => eqV (xs.getD j .non) (ys.getD j .non)) pl pl2 hu (fun j h1 h2 => ?_) _ _ _ _ ⟨.bl _, H, I, rfl, ?_⟩
  · exact eqAt_V (by simpa using Vals.getD j (by simpa using h1) r) (by simpa using Vals.getD j (by simpa using h2) r2) (flat_getD j fx) (flat_getD j fy)
  · rw [e1, e2]; exact k
theorem r_neQ {p q : Addr} {xs ys : List V} (h1 : SqT K H p xs) (h2 : SqT K H q ys) (f1 : xs.all flatV = true) (f2 : ys.all flatV = true) (k : Q (.bl (!eqVs xs ys)) H) : rNeT K (.ref p) (.ref q) H Q := ⟨p, q, xs, ys, rfl, rfl, h1, h2, f1, f2, k⟩
theorem r_eqQ {p q : Addr} {xs ys : List V} (h1 : SqT K H p xs) (h2 : SqT K H q ys) (f1 : xs.all flatV = true) (f2 : ys.all flatV = true) (k : Q (.bl (eqVs xs ys)) H) : rEqT K (.ref p) (.ref q) H Q := ⟨p, q, xs, ys, rfl, rfl, h1, h2, f1, f2, k⟩
theorem eqVs_texts (a b : Str) : eqVs [.str a, .str b] [.str a, .str b] = true := by
  unfold eqVs
  simp [List.range, List.range.loop, eqV]
theorem r_neQt {p q : Addr} {a b : Str} (h1 : SqT K H p [.str a, .str b]) (h2 : SqT K H q [.str a, .str b]) (k : Q (.bl false) H) : rNeT K (.ref p) (.ref q) H Q := r_neQ h1 h2 rfl rfl (by rw [eqVs_texts]; exact k)
/-- a tuple of the module -/
theorem SqT.mod {p : Addr} {xs : List V} {its : List Value} {n : Nat} (lk : K.lookup p = some { cls := .type "tuple", data := .seq its.toArray n }) (hz : its.length ≤ 1000) (r : Vals xs its) : SqT K H p xs := .inr ⟨_, its.toArray, n, lk, rfl, rfl, small (by simpa using hz), by simpa using r⟩
end
/-! ### styles -/
def stL (x : Str) (b : Bool) : List Nat := if x = "minus" then (if b then [45] else []) else if x = "plus" then (if b then [45] else [43]) else if x = "blank" then (if b then [45] else [32]) else if x = "brackets" then (if b then [40] else []) else []
def stT (x : Str) (b : Bool) : List Nat := if x = "minus" then [] else if x = "plus" then [] else if x = "blank" then [] else if x = "brackets" then (if b then [41] else []) else (if b then [45] else [])
def Style (x : Str) : Prop := x = "minus" ∨ x = "plus" ∨ x = "blank" ∨ x = "brackets" ∨ x = "behind"
theorem st_minus (b : Bool) : stL "minus" b = (if b then [45] else []) ∧ stT "minus" b = [] := by unfold stL stT; cases b <;> decide +kernel
theorem st_plus (b : Bool) : stL "plus" b = (if b then [45] else [43]) ∧ stT "plus" b = [] := by unfold stL stT; cases b <;> decide +kernel
theorem st_blank (b : Bool) : stL "blank" b = (if b then [45] else [32]) ∧ stT "blank" b = [] := by unfold stL stT; cases b <;> decide +kernel
theorem st_brackets (b : Bool) : stL "brackets" b = (if b then [40] else []) ∧ stT "brackets" b = (if b then [41] else []) := by unfold stL stT; cases b <;> decide +kernel
theorem st_behind (b : Bool) : stL "behind" b = [] ∧ stT "behind" b = (if b then [45] else []) := by unfold stL stT; cases b <;> decide +kernel
theorem st_len {x : Str} (h : Style x) (b : Bool) : (stL x b).length ≤ 1 ∧ (stT x b).length ≤ 1 := by
  rcases h with rfl | rfl | rfl | rfl | rfl
  · rw [(st_minus b).1, (st_minus b).2]; cases b <;> decide
  · rw [(st_plus b).1, (st_plus b).2]; cases b <;> decide
  · rw [(st_blank b).1, (st_blank b).2]; cases b <;> decide
  · rw [(st_brackets b).1, (st_brackets b).2]; cases b <;> decide
  · rw [(st_behind b).1, (st_behind b).2]; cases b <;> decide
/-- the module's dict of styles -/
def Sty (w : World) (K : PySem.W.Frag) (d : Addr) : Prop := ∀ (x : Str), Style x → ∃ p a b : Addr, KD w K d x p ∧ ∀ H : Hp, SqT K H p [.ref a, .ref b] ∧ SqT K H a [.str (T (stL x false)), .str (T (stT x false))] ∧ SqT K H b [.str (T (stL x true)), .str (T (stT x true))]
end L2
namespace L2
open PySem PySem.Spec PyProof.Rows
theorem sty_mk {w : World} {K : PySem.W.Frag} {d : Addr} {n0 : Nat} {t0 : Tok} {p0 a0 b0 : Addr} {n01 n02 n03 : Nat} {u01 u02 u03 u04 : Tok} {t1 : Tok} {p1 a1 b1 : Addr} {n11 n12 n13 : Nat} {u11 u12 u13 u14 : Tok} {t2 : Tok} {p2 a2 b2 : Addr} {n21 n22 n23 : Nat} {u21 u22 u23 u24 : Tok} {t3 : Tok} {p3 a3 b3 : Addr} {n31 n32 n33 : Nat} {u31 u32 u33 u34 : Tok} {t4 : Tok} {p4 a4 b4 : Addr} {n41 n42 n43 : Nat} {u41 u42 u43 u44 : Tok}
    (hd : K.lookup d = some { cls := .type "dict", data := .dict #[⟨PyData.keyHash w.params "minus", .str "minus" t0, .ref p0⟩, ⟨PyData.keyHash w.params "plus", .str "plus" t1, .ref p1⟩, ⟨PyData.keyHash w.params "blank", .str "blank" t2, .ref p2⟩, ⟨PyData.keyHash w.params "brackets", .str "brackets" t3, .ref p3⟩, ⟨PyData.keyHash w.params "behind", .str "behind" t4, .ref p4⟩] n0 })
    (hp0 : K.lookup p0 = some { cls := .type "tuple", data := .seq #[.ref a0, .ref b0] n01 })
    (ha0 : K.lookup a0 = some { cls := .type "tuple", data := .seq #[.str "" u01, .str "" u02] n02 })
    (hb0 : K.lookup b0 = some { cls := .type "tuple", data := .seq #[.str "-" u03, .str "" u04] n03 })
    (hp1 : K.lookup p1 = some { cls := .type "tuple", data := .seq #[.ref a1, .ref b1] n11 })
    (ha1 : K.lookup a1 = some { cls := .type "tuple", data := .seq #[.str "+" u11, .str "" u12] n12 })
    (hb1 : K.lookup b1 = some { cls := .type "tuple", data := .seq #[.str "-" u13, .str "" u14] n13 })
    (hp2 : K.lookup p2 = some { cls := .type "tuple", data := .seq #[.ref a2, .ref b2] n21 })
    (ha2 : K.lookup a2 = some { cls := .type "tuple", data := .seq #[.str " " u21, .str "" u22] n22 })
    (hb2 : K.lookup b2 = some { cls := .type "tuple", data := .seq #[.str "-" u23, .str "" u24] n23 })
    (hp3 : K.lookup p3 = some { cls := .type "tuple", data := .seq #[.ref a3, .ref b3] n31 })
    (ha3 : K.lookup a3 = some { cls := .type "tuple", data := .seq #[.str "" u31, .str "" u32] n32 })
    (hb3 : K.lookup b3 = some { cls := .type "tuple", data := .seq #[.str "(" u33, .str ")" u34] n33 })
    (hp4 : K.lookup p4 = some { cls := .type "tuple", data := .seq #[.ref a4, .ref b4] n41 })
    (ha4 : K.lookup a4 = some { cls := .type "tuple", data := .seq #[.str "" u41, .str "" u42] n42 })
    (hb4 : K.lookup b4 = some { cls := .type "tuple", data := .seq #[.str "" u43, .str "-" u44] n43 }) : Sty w K d := by
  have ks : ∀ e, e ∈ (#[⟨PyData.keyHash w.params "minus", .str "minus" t0, .ref p0⟩, ⟨PyData.keyHash w.params "plus", .str "plus" t1, .ref p1⟩, ⟨PyData.keyHash w.params "blank", .str "blank" t2, .ref p2⟩, ⟨PyData.keyHash w.params "brackets", .str "brackets" t3, .ref p3⟩, ⟨PyData.keyHash w.params "behind", .str "behind" t4, .ref p4⟩] : Array DictEntry) → ∃ k, Value.isStrOf k e.key = true ∧ e.hash = hashStr w k := by
    intro e he
    simp only [List.mem_toArray, List.mem_cons, List.not_mem_nil, or_false] at he
    rcases he with rfl | rfl | rfl | rfl | rfl
    · exact ⟨"minus", by simp [Value.isStrOf], rfl⟩
    · exact ⟨"plus", by simp [Value.isStrOf], rfl⟩
    · exact ⟨"blank", by simp [Value.isStrOf], rfl⟩
    · exact ⟨"brackets", by simp [Value.isStrOf], rfl⟩
    · exact ⟨"behind", by simp [Value.isStrOf], rfl⟩
  intro x hx
  rcases hx with rfl | rfl | rfl | rfl | rfl
  · refine ⟨p0, a0, b0, ⟨_, _, hd, ks, ?_⟩, fun H => ⟨.mod hp0 (by simp) (.cons rfl (.cons rfl .nil)), .mod ha0 (by simp) (.cons ⟨u01, ?_⟩ (.cons ⟨u02, ?_⟩ .nil)), .mod hb0 (by simp) (.cons ⟨u03, ?_⟩ (.cons ⟨u04, ?_⟩ .nil))⟩⟩
    · unfold findBy
      simp only [List.find?_toArray, List.find?_cons]
      rfl
    · exact congrArg (fun z => Value.str z _) (by rw [(st_minus _).1]; decide +kernel)
    · exact congrArg (fun z => Value.str z _) (by rw [(st_minus _).2]; decide +kernel)
    · exact congrArg (fun z => Value.str z _) (by rw [(st_minus _).1]; decide +kernel)
    · exact congrArg (fun z => Value.str z _) (by rw [(st_minus _).2]; decide +kernel)
  · refine ⟨p1, a1, b1, ⟨_, _, hd, ks, ?_⟩, fun H => ⟨.mod hp1 (by simp) (.cons rfl (.cons rfl .nil)), .mod ha1 (by simp) (.cons ⟨u11, ?_⟩ (.cons ⟨u12, ?_⟩ .nil)), .mod hb1 (by simp) (.cons ⟨u13, ?_⟩ (.cons ⟨u14, ?_⟩ .nil))⟩⟩
    · unfold findBy
      simp only [List.find?_toArray, List.find?_cons]
      rfl
    · exact congrArg (fun z => Value.str z _) (by rw [(st_plus _).1]; decide +kernel)
    · exact congrArg (fun z => Value.str z _) (by rw [(st_plus _).2]; decide +kernel)
    · exact congrArg (fun z => Value.str z _) (by rw [(st_plus _).1]; decide +kernel)
    · exact congrArg (fun z => Value.str z _) (by rw [(st_plus _).2]; decide +kernel)
  · refine ⟨p2, a2, b2, ⟨_, _, hd, ks, ?_⟩, fun H => ⟨.mod hp2 (by simp) (.cons rfl (.cons rfl .nil)), .mod ha2 (by simp) (.cons ⟨u21, ?_⟩ (.cons ⟨u22, ?_⟩ .nil)), .mod hb2 (by simp) (.cons ⟨u23, ?_⟩ (.cons ⟨u24, ?_⟩ .nil))⟩⟩
    · unfold findBy
      simp only [List.find?_toArray, List.find?_cons]
      rfl
    · exact congrArg (fun z => Value.str z _) (by rw [(st_blank _).1]; decide +kernel)
    · exact congrArg (fun z => Value.str z _) (by rw [(st_blank _).2]; decide +kernel)
    · exact congrArg (fun z => Value.str z _) (by rw [(st_blank _).1]; decide +kernel)
    · exact congrArg (fun z => Value.str z _) (by rw [(st_blank _).2]; decide +kernel)
  · refine ⟨p3, a3, b3, ⟨_, _, hd, ks, ?_⟩, fun H => ⟨.mod hp3 (by simp) (.cons rfl (.cons rfl .nil)), .mod ha3 (by simp) (.cons ⟨u31, ?_⟩ (.cons ⟨u32, ?_⟩ .nil)), .mod hb3 (by simp) (.cons ⟨u33, ?_⟩ (.cons ⟨u34, ?_⟩ .nil))⟩⟩
    · unfold findBy
      simp only [List.find?_toArray, List.find?_cons]
      rfl
    · exact congrArg (fun z => Value.str z _) (by rw [(st_brackets _).1]; decide +kernel)
    · exact congrArg (fun z => Value.str z _) (by rw [(st_brackets _).2]; decide +kernel)
    · exact congrArg (fun z => Value.str z _) (by rw [(st_brackets _).1]; decide +kernel)
    · exact congrArg (fun z => Value.str z _) (by rw [(st_brackets _).2]; decide +kernel)
  · refine ⟨p4, a4, b4, ⟨_, _, hd, ks, ?_⟩, fun H => ⟨.mod hp4 (by simp) (.cons rfl (.cons rfl .nil)), .mod ha4 (by simp) (.cons ⟨u41, ?_⟩ (.cons ⟨u42, ?_⟩ .nil)), .mod hb4 (by simp) (.cons ⟨u43, ?_⟩ (.cons ⟨u44, ?_⟩ .nil))⟩⟩
    · unfold findBy
      simp only [List.find?_toArray, List.find?_cons]
      rfl
    · exact congrArg (fun z => Value.str z _) (by rw [(st_behind _).1]; decide +kernel)
    · exact congrArg (fun z => Value.str z _) (by rw [(st_behind _).2]; decide +kernel)
    · exact congrArg (fun z => Value.str z _) (by rw [(st_behind _).1]; decide +kernel)
    · exact congrArg (fun z => Value.str z _) (by rw [(st_behind _).2]; decide +kernel)
end L2

set_option Elab.async false
set_option linter.all false
set_option maxRecDepth 100000
set_option maxHeartbeats 400000
namespace L2
open PySem PySem.Spec PyProof.Rows
/-! ### a dict of texts that is made here -/
def MapAt (P : Program) (w : World) (p : Addr) (kvs : List (Str × V)) (h : Heap) : Prop := ∃ us : List (Str × Value), Heap.DictOf (PySem.strKind P w) h p us ∧ us.map Prod.fst = kvs.map Prod.fst ∧ Vals (kvs.map Prod.snd) (us.map Prod.snd)
def mapO (P : Program) (w : World) (p : Addr) (kvs : List (Str × V)) : HO := .ext (MapAt P w p kvs)
theorem map_ok {P : Program} {w : World} {H : Hp} {h : Heap} {p : Addr} {kvs : List (Str × V)} (m : MapAt P w p kvs h) : ObjOk P w H h p (mapO P w p kvs) := by
  refine ⟨m, ?_, fun h1 h2 m1 k => ?_⟩
  · obtain ⟨us, ⟨o, es, ep, ho, _⟩, _⟩ := m
    exact ⟨o, ho⟩
  · obtain ⟨us, ⟨o, es, ep, ho, hr⟩, h3, h4⟩ := m1
    exact ⟨us, ⟨o, es, ep, k o ho, hr⟩, h3, h4⟩
theorem merged_nodup : ∀ (us acc : List (Str × Value)), (acc.map Prod.fst ++ us.map Prod.fst).Nodup → us.foldl (fun acc kv => stored acc kv.fst kv.snd) acc = acc ++ us
  | [], acc, _ => by simp
  | u :: us, acc, h => by
    have hn : (acc.any fun kv => decide (kv.fst = u.1)) = false := by
      rw [List.any_eq_false]
      intro kv hkv z
      have z' : kv.fst = u.1 := of_decide_eq_true z
      rw [List.map_cons, List.nodup_append] at h
      exact h.2.2 kv.fst (List.mem_map.mpr ⟨kv, hkv, rfl⟩) u.1 List.mem_cons_self z'
    have e : stored acc u.fst u.snd = acc ++ [u] := by
      unfold stored
      rw [hn]; rfl
    rw [List.foldl_cons, e, merged_nodup us (acc ++ [u]) (by rw [List.map_append, List.append_assoc]; exact h), List.append_assoc]; rfl
section
variable {X : Cx} {H : Hp} {Q : VK} {K : PySem.W.Frag} {σ : St}
/-- pairs of written texts and values -/
def PM (X : Cx) (pos : Pos) (keys : List (Option Expr)) (values : List Expr) (ks : List Str) (t : TA) : Prop :=
  ∀ (pins : List (Addr × Obj)) (s : Shared) (σ : St) (H : Hp) (R : List V → Hp → Prop), Inv X pins σ H s → t σ H R →
    wpAny (model X.prog X.w) X.A (evalPairs (pairTrees keys values X.env pos)) (fun ws s2 => ∃ vs H2, Inv X pins σ H2 s2 ∧ (∃ us : List (Str × Value), Carries (PySem.strKind X.prog X.w) ws us ∧ us.map Prod.fst = ks ∧ Vals vs (us.map Prod.snd)) ∧ R vs H2) X.xe s
theorem pm_nil {pos : Pos} : PM X pos [] [] [] tNil := fun pins s σ H R I h => pairTrees_nil_walk ⟨[], H, I, ⟨[], trivial, rfl, .nil⟩, h⟩
theorem pm_cons {pos p : Pos} {x : Str} {j : Nat} {v : Expr} {ks : List (Option Expr)} {vs : List Expr} {xs : List Str} {tv : TE} {t : TA} (hv : PE X v tv) (hr : PM X pos ks vs xs t) : PM X pos (some (.Constant (.str x) j p) :: ks) (v :: vs) (x :: xs) (tCons tv t) := by
  intro pins s σ H R I h
  refine pairTrees_cons_walk (Calls.Constant_str (thn (hv pins _ σ H _ (I.tok _) h) fun vv s2 ⟨y, H1, I1, r1, q1⟩ => thn (hr pins s2 σ H1 _ I1 q1) fun ws s3 ⟨ys, H2, I2, ⟨us, c, e, r⟩, q2⟩ => ?_))
  exact ⟨y :: ys, H2, I2, ⟨(x, vv) :: us, ⟨by simp [PySem.strKind, Value.isStrOf], rfl, c⟩, by rw [List.map_cons, e], .cons r1 r⟩, q2⟩
def tMap (P : Program) (w : World) (ks : List Str) (t : TA) : TE := fun σ H Q => ∀ p H0, H p = none → Same H H0 → H0 p = some (mapO P w p []) → t σ H0 fun vs H1 => H1 p = some (mapO P w p []) ∧ vs.length = ks.length ∧ ∀ H2, SB p H1 H2 → H2 p = some (mapO P w p (ks.zip vs)) → Q (.ref p) H2
theorem pe_map {pos : Pos} {keys : List (Option Expr)} {values : List Expr} {ks : List Str} {t : TA} (h : PM X pos keys values ks t) (hall : keys.all (·.isSome) = true) (hl : keys.length = values.length) (h0 : keys ≠ []) (h15 : keys.length ≤ 15) (nd : ks.Nodup) :
    PE X (.Dict keys values pos) (tMap X.prog X.w ks t) := by
  intro pins s σ H Q I q
  have hn := I.hok.fresh (Nat.le_refl s.heap.objs.size)
  have I1 := I.laid (a := s.heap.objs.size) (o := mapO X.prog X.w s.heap.objs.size []) (h' := s.heap.push { cls := .type "dict", data := .dict #[] }) (t' := s.toks) (fun _ _ q => Heap.get?_push_of_some _ q) (Nat.le_refl _) (map_ok ⟨[], Heap.DictOf.new _, rfl, .nil⟩)
  refine wpAny_Dict_walk (knd := PySem.strKind X.prog X.w) hall hl h0 h15 (thn (h pins _ σ _ _ I1 (q _ _ hn (same_new hn _) upd_same)) fun ws s2 ⟨vs, H2, I2, ⟨us, c, e, r⟩, e0, lk, q2⟩ => ?_)
  obtain ⟨us0, dd, z1, _⟩ := (I2.hok _ _ e0).1
  have z2 : us0 = [] := List.map_eq_nil_iff.mp z1
  subst z2
  refine ⟨us, c, dd, fun h' dd' hs => ⟨.ref s.heap.objs.size, _, ?_, rfl, q2 _ (fun b o n z => by rw [upd_ne n]; exact z) upd_same⟩⟩
  have em : merged [] us = us := by unfold merged; rw [merged_nodup us [] (by rw [List.map_nil, List.nil_append, e]; exact nd), List.nil_append]
  rw [em] at dd'
  have he : ∃ q, h'.get? s.heap.objs.size = some q := let ⟨q, _, _, hq, _⟩ := dd'; ⟨q, hq⟩
  refine I2.write (x := s.heap.objs.size) (e := s.heap.objs.size) (by rw [e0]; exact trivial) (.inl rfl) (fun b q hb z => (hs.2 b hb).trans z) he (map_ok ⟨us, dd', ?_, ?_⟩)
  · rw [e, List.map_fst_zip (by omega)]
  · rw [List.map_snd_zip (by omega)]; exact r
/-- what a text has in it -/
def lookV (kvs : List (Str × V)) (z : Str) : Option V := (kvs.find? fun kv => decide (kv.1 = z)).map Prod.snd
theorem look_rel : ∀ {kvs : List (Str × V)} {us : List (Str × Value)} {z : Str} {v : V}, us.map Prod.fst = kvs.map Prod.fst → Vals (kvs.map Prod.snd) (us.map Prod.snd) → lookV kvs z = some v → ∃ u, valueAt us z = some u ∧ RelV v u
  | [], us, z, v, _, _, h => by cases h
  | kv :: kvs, [], z, v, e, _, h => by cases e
  | kv :: kvs, u :: us, z, v, e, r, h => by
    rw [List.map_cons, List.map_cons, List.cons.injEq] at e
    rw [List.map_cons, List.map_cons] at r
    cases r with
    | cons r1 r2 =>
      unfold lookV at h
      unfold valueAt
      rw [List.find?_cons] at h ⊢
      rw [e.1]
      by_cases hz : kv.1 = z
      · rw [decide_eq_true hz] at h ⊢
        cases h
        exact ⟨u.2, rfl, r1⟩
      · rw [decide_eq_false hz] at h ⊢
        exact look_rel e.2 r2 h
theorem r_map {P : Program} {w : World} {ks : List Str} {t : TA} (h : ∀ p H0, H p = none → Same H H0 → H0 p = some (mapO P w p []) → t σ H0 fun vs H1 => H1 p = some (mapO P w p []) ∧ vs.length = ks.length ∧ ∀ H2, SB p H1 H2 → H2 p = some (mapO P w p (ks.zip vs)) → Q (.ref p) H2) : tMap P w ks t σ H Q := h
theorem map_ne {P : Program} {w : World} {p q : Addr} {kvs : List (Str × V)} {xs : List V} (h1 : H p = some (mapO P w p kvs)) (h2 : H q = some (.tup xs)) : q ≠ p := fun e => by rw [e, h1] at h2; cases h2
def rIxM (P : Program) (w : World) : R2 := fun x y H Q => ∃ p z kvs v, x = .ref p ∧ y = .str z ∧ H p = some (mapO P w p kvs) ∧ lookV kvs z = some v ∧ Q v H
theorem ix_map : IxR X (rIxM X.prog X.w) := by
  intro value slice pins s σ H x y v u Q I rx ry h hs
  obtain ⟨p, z, kvs, v0, rfl, rfl, hp, lk, q⟩ := h
  cases rx
  obtain ⟨t, rfl⟩ := ry
  obtain ⟨us, dd, h3, h4⟩ := (I.hok _ _ hp).1
  obtain ⟨u0, hu, ru⟩ := look_rel h3 h4 lk
  have fin : ∀ k, EP X pins σ Q u0 { s with toks := k } := fun k => ⟨v0, H, I.tok _, ru, q⟩
  have ty : s.TypeIs (.ref p) "dict" := by
    obtain ⟨o, es, ep, ho, hx, _⟩ := id dd
    exact ⟨o, ho, hx.1⟩
  exact subscriptTail_builtinR (x := u0) ty slot_dict_getitem.lookup
    (wpAny_getItem_of (knd := PySem.strKind X.prog X.w) (k := z) (Q := fun r s' => r = u0 ∧ EP X pins σ Q r s') (by simp [PySem.strKind, Value.isStrOf]) dd.mapOf hu ⟨rfl, fin _⟩) hs
theorem r_ixM {P : Program} {w : World} {p : Addr} {z : Str} {kvs : List (Str × V)} {v : V} (hp : H p = some (mapO P w p kvs)) (lk : lookV kvs z = some v) (q : Q v H) : rIxM P w (.ref p) (.str z) H Q := ⟨p, z, kvs, v, rfl, rfl, hp, lk, q⟩
end
end L2

set_option Elab.async false
set_option linter.all false
set_option maxRecDepth 100000
set_option maxHeartbeats 400000
namespace L2
open PySem PySem.Spec PyProof.Rows
section
variable {X : Cx} {σ : St} {H : Hp} {Q : VK} {D : Ends} {K : PySem.W.Frag}
/-! ### a for over a tuple -/
def kForT (K : PySem.W.Frag) (g : TG) (tb : TS) (D : Ends) (σ : St) (x : V) (H : Hp) : Prop := ∃ a, x = .ref a ∧ (∃ xs, SqT K H a xs) ∧ ∃ W : Nat → Nat → St → Hp → Prop, (∃ m, W 0 m σ H) ∧ ∀ i m σ H, W i m σ H →
  ((Itt K a).stop i H ∧ D.nx σ H) ∨ ((Itt K a).go i H ∧ ∃ N : St → Hp → Prop, (∀ σ' H', N σ' H' → ∃ m', m' < m ∧ W (i + 1) m' σ' H') ∧ ∀ x H', (Itt K a).yld i H x H' → g x σ H' fun σ2 H2 => tb { D with nx := N, ct := N, bk := D.nx } σ2 H2)
theorem r_forT {tl : TE} {g : TG} {tb : TS} (h : tl σ H (kForT K g tb D σ)) : tFor (iTup K tl) g tb D σ H := h
theorem r_kForT {g : TG} {tb : TS} {a : Addr} {xs : List V} (hx : SqT K H a xs) (Pv : Nat → St → Hp → Prop) (h0 : Pv 0 σ H) (hl : ∀ i σ H, i ≤ xs.length → Pv i σ H → SqT K H a xs)
    (hs : ∀ i x σ H, xs[i]? = some x → Pv i σ H → g x σ H fun σ2 H2 => tb { D with nx := Pv (i + 1), ct := Pv (i + 1), bk := D.nx } σ2 H2) (hd : ∀ σ H, Pv xs.length σ H → D.nx σ H) : kForT K g tb D σ (.ref a) H := ⟨a, rfl, ⟨xs, hx⟩, for_tup Pv h0 hl hs hd⟩
/-! ### xs == [] -/
def rEqNil (K : PySem.W.Frag) : R2 := fun x y H Q => ∃ p q xs, x = .ref p ∧ y = .ref q ∧ SqL K H p xs ∧ SqL K H q [] ∧ Q (.bl (decide (xs = []))) H
theorem op_eqNil (hu : X.A.units < cLine) : OpR X (compareOp .Eq) (rEqNil X.K) := by
  intro pins s σ H x y v u Q I rx ry h
  obtain ⟨p, q, xs, rfl, rfl, hx, hy, k⟩ := h
  cases rx; cases ry
  obtain ⟨its, r, pl, hz⟩ := I.list hx
  obtain ⟨its2, r2, pl2, hz2⟩ := I.list hy
  cases r2
  cases r with
  | nil => exact SeqAt.eq_listAt (e := fun _ => true) pl.isList pl2.isList rfl hu (fun j h1 h2 => absurd h1 (by simp)) ⟨.bl _, H, I, rfl, by simpa using k⟩
  | cons r1 r2 => exact SeqAt.eq_list_lengthsAt pl.isList pl2.isList (by simp) hu ⟨.bl _, H, I, rfl, by simpa using k⟩
theorem r_eqNil {p q : Addr} {xs : List V} (h1 : SqL K H p xs) (h2 : SqL K H q []) (k : Q (.bl (decide (xs = []))) H) : rEqNil K (.ref p) (.ref q) H Q := ⟨p, q, xs, rfl, rfl, h1, h2, k⟩
/-! ### a sign among the figures -/
theorem in_all : ∀ c ∈ List.range 127, (!(Builtin.Str.occurrences "0123456789abcdef" (T [c]) 0 (Str.ofString "0123456789abcdef").length 1).isEmpty) = decide (0 ≤ fv c) := by decide +kernel
theorem r_inF {c : Nat} (h : c < 127) (q : Q (.bl (decide (0 ≤ fv c))) H) : rInS (.str (T [c])) (.str "0123456789abcdef") H Q := r_inS (by rw [in_all c (List.mem_range.mpr h)]; exact q)
/-- the slice of a text without signs -/
theorem rTT_slE {lo hi : Option Int} (q : Q (.str (T [])) H) : rSlS (.str (T [])) lo hi H Q := by
  refine r_slS (by decide) ?_
  rw [slice_T, Lt_T]; simpa using q
theorem eqVs_bs (b : Bool) (y : Str) : eqVs [.bl b, .str y] [.bl b, .str y] = true := by
  unfold eqVs
  simp [List.range, List.range.loop, eqV]
end
/-! ### a core and its body -/
def bod (x : Str) (b : Bool) (t : List Nat) : List Nat := (t.take (t.length - (stT x b).length)).drop (stL x b).length
def Fg (l : List Nat) : Prop := l ≠ [] ∧ 0 ≤ fv (l.getD 0 0) ∧ 0 ≤ fv (l.getD (l.length - 1) 0)
def Sgd (x : Str) (b : Bool) (t : List Nat) : Prop := Fg (bod x b t) ∧ stL x b ++ bod x b t ++ stT x b = t
theorem bod_len {x : Str} {b : Bool} {t : List Nat} : (bod x b t).length = t.length - (stT x b).length - (stL x b).length := by
  unfold bod; rw [List.length_drop, List.length_take]; omega
theorem bod_asc {x : Str} {b : Bool} {t : List Nat} (h : Asc t) : Asc (bod x b t) := (h.take _).drop _
theorem getD_asc {t : List Nat} {i : Nat} (h : Asc t) (hi : i < t.length) : t.getD i 0 < 127 := by
  rw [List.getD_eq_getElem?_getD, List.getElem?_eq_getElem hi]; exact h _ (List.getElem_mem hi)
theorem no_fig_eq {c d : Nat} (h : 0 ≤ fv c) (e : c = d) (hd : fv d = -1) : False := by rw [e, hd] at h; omega
/-- no text is so both ways -/
theorem one_way {x : Str} (hx : Style x) {t : List Nat} (h0 : Sgd x false t) (h1 : Sgd x true t) : False := by
  have b0 := List.length_pos_iff.mpr h0.1.1
  have b1 := List.length_pos_iff.mpr h1.1.1
  have e0 := h0.2
  have e1 := h1.2
  have f0 := h0.1.2
  generalize hB : bod x false t = B at *
  generalize hC : bod x true t = C at *
  have e := e0.trans e1.symm
  rcases hx with rfl | rfl | rfl | rfl | rfl
  · rw [(st_minus _).1, (st_minus _).2, (st_minus _).1, (st_minus _).2] at e
    have z1 := congrArg (fun l => l.getD 0 0) e
    exact no_fig_eq f0.1 (by simpa using z1) (by decide)
  · rw [(st_plus _).1, (st_plus _).2, (st_plus _).1, (st_plus _).2] at e
    have z1 := congrArg (fun l => l.getD 0 0) e
    simp at z1
  · rw [(st_blank _).1, (st_blank _).2, (st_blank _).1, (st_blank _).2] at e
    have z1 := congrArg (fun l => l.getD 0 0) e
    simp at z1
  · rw [(st_brackets _).1, (st_brackets _).2, (st_brackets _).1, (st_brackets _).2] at e
    have z1 := congrArg (fun l => l.getD 0 0) e
    exact no_fig_eq f0.1 (by simpa using z1) (by decide)
  · rw [(st_behind _).1, (st_behind _).2, (st_behind _).1, (st_behind _).2] at e
    have e' : B = C ++ [45] := by simpa using e
    have z1 : B.getD (B.length - 1) 0 = 45 := by
      rw [e', List.length_append, List.length_singleton, Nat.add_sub_cancel, getD_app2 (Nat.le_refl _), Nat.sub_self]; rfl
    exact no_fig_eq f0.2 z1 (by decide)
end L2
namespace L2
open PySem PySem.Spec PyProof.Rows
theorem look5 (a b c d e : V) : lookV ((["minus", "plus", "blank", "brackets", "behind"] : List Str).zip [a, b, c, d, e]) "minus" = some a ∧ lookV ((["minus", "plus", "blank", "brackets", "behind"] : List Str).zip [a, b, c, d, e]) "plus" = some b ∧ lookV ((["minus", "plus", "blank", "brackets", "behind"] : List Str).zip [a, b, c, d, e]) "blank" = some c ∧ lookV ((["minus", "plus", "blank", "brackets", "behind"] : List Str).zip [a, b, c, d, e]) "brackets" = some d ∧ lookV ((["minus", "plus", "blank", "brackets", "behind"] : List Str).zip [a, b, c, d, e]) "behind" = some e := by
  refine ⟨rfl, rfl, rfl, rfl, rfl⟩
theorem bod_eq {x : Str} {b : Bool} {t : List Nat} {k : Int} (h : 0 < (t.length : Int) - (stL x b).length - (stT x b).length) (hk : k = (t.length : Int) - (stL x b).length - (stT x b).length) : (t.take (((stL x b).length : Int) + k).toNat).drop ((stL x b).length : Int).toNat = bod x b t := by
  unfold bod; rw [Int.toNat_natCast, show (((stL x b).length : Int) + k).toNat = t.length - (stT x b).length by omega]
end L2
namespace L2
open PySem PySem.Spec PyProof.Rows
theorem st_asc {x : Str} (h : Style x) (b : Bool) : Asc (stL x b) ∧ Asc (stT x b) := by
  unfold Asc
  rcases h with rfl | rfl | rfl | rfl | rfl
  · rw [(st_minus b).1, (st_minus b).2]; cases b <;> decide
  · rw [(st_plus b).1, (st_plus b).2]; cases b <;> decide
  · rw [(st_blank b).1, (st_blank b).2]; cases b <;> decide
  · rw [(st_brackets b).1, (st_brackets b).2]; cases b <;> decide
  · rw [(st_behind b).1, (st_behind b).2]; cases b <;> decide
end L2

set_option Elab.async false
set_option linter.all false
set_option maxRecDepth 100000
set_option maxHeartbeats 400000
namespace L2
open PySem PySem.Spec PyProof.Rows
section
variable {X : Cx} {H : Hp} {Q : VK} {K : PySem.W.Frag} {σ : St}
/-! ### try, where nothing is raised -/
theorem ps_tryC {body : List Stmt} {h₀ : ExceptHandler} {hs : List ExceptHandler} {pos : Pos} {t : TS} (hxe : ∀ e s, ¬ X.xe e s) (hb : PSs X body t) : PS X (.Try body (h₀ :: hs) [] [] pos) t := by
  intro pins s σ H D I h
  refine wpAny_Try_except (wpAny_mono (hb pins s σ H D I h) (fun f s1 q => ?_) fun e s1 z => (hxe e s1 z).elim)
  cases f with
  | next => exact wpAny_execs_nil q
  | ret u => exact q
  | brk => exact q
  | cont => exact q
/-! ### text.rjust(width, fill) -/
def rRjT : V → List V → Hp → VK → Prop := fun x vs H Q => ∃ (a : List Nat) (i : Int) (c : Nat), x = .str (T a) ∧ vs = [.int i, .str (T [c])] ∧ 0 ≤ i ∧ i ≤ 1000 ∧ Q (.str (T (List.replicate (i.toNat - a.length) c ++ a))) H
theorem mt_rjustT : MtR X "str.rjust" rRjT := by
  intro pins s σ H x vs v us Q I rx rv h
  obtain ⟨a, i, c, rfl, rfl, h0, h1, q⟩ := h
  obtain ⟨t, rfl⟩ := rx
  obtain ⟨u1, u2, rfl, r1, r2⟩ := vals2 rv
  obtain ⟨t1, rfl⟩ := r1
  obtain ⟨t2, rfl⟩ := r2
  have pk : PadOk i = true := by
    unfold PadOk Builtin.Str.tooLong fitsSsize
    have : ¬ i.toNat > sizeLine := by show ¬ i.toNat > 16777216; omega
    rw [decide_eq_false this]
    simp
    omega
  refine rjust_fill pk rfl fun t' k => ⟨.str _, H, I.tok _, ⟨t', rfl⟩, ?_⟩
  have e : Txt.rjustF (T a) i ((T [c]).cps.getD 0 0) = T (List.replicate (i.toNat - a.length) c ++ a) := Lt_inj (rjustF_list (T a) i c)
  rw [e]; exact q
theorem r_rjT {a : List Nat} {i : Int} {c : Nat} (h0 : 0 ≤ i) (h1 : i ≤ 1000) (q : Q (.str (T (List.replicate (i.toNat - a.length) c ++ a))) H) : rRjT (.str (T a)) [.int i, .str (T [c])] H Q := ⟨a, i, c, rfl, rfl, h0, h1, q⟩
end
/-! ### figures with noughts ahead -/
def dgs (b p n : Nat) : List Nat := List.replicate (p + 1 - (figs b n).length) 48 ++ figs b n
def dF (b least k : Nat) (l : List Nat) : List Nat := if k = 0 then List.replicate (least - l.length) 48 ++ l else List.replicate (least - (figs b k).length - l.length) 48 ++ (figs b k ++ l)
theorem dF_start {b p n : Nat} (h2 : 2 ≤ b) : dF b (p + 1) n [] = dgs b p n := by
  unfold dF dgs
  split
  · rename_i h
    subst h
    rw [figs_lt (by omega), show fc 0 = 48 by decide +kernel]
    simp
    exact List.replicate_succ'
  · simp
theorem dF_turn {b least k : Nat} {l : List Nat} (h2 : 2 ≤ b) (h : 0 < k ∨ l.length < least) : dF b least k l = dF b least (k / b) (fc (k % b) :: l) := by
  rcases Nat.eq_zero_or_pos k with p | p
  · subst p
    unfold dF
    have : l.length < least := by omega
    rw [if_pos rfl, Nat.zero_div, if_pos rfl, Nat.zero_mod, show fc 0 = 48 by decide +kernel, List.length_cons, show least - l.length = (least - (l.length + 1)) + 1 by omega, List.replicate_succ']
    simp
  · unfold dF
    rw [if_neg (by omega), List.length_cons]
    have t := figs_turn (b := b) (m := k) h2 l
    rcases Nat.lt_or_ge k b with q | q
    · rw [if_pos (Nat.div_eq_of_lt q), figs_lt q, Nat.mod_eq_of_lt q, List.length_singleton, show least - 1 - l.length = least - (l.length + 1) by omega]; rfl
    · have pd : 0 < k / b := Nat.div_pos q (by omega)
      rw [if_neg (by omega)] at t ⊢
      rw [t, figs_ge h2 q, List.length_append, List.length_singleton]
      congr 2
      omega
theorem dF_end {b least : Nat} {l : List Nat} (h : least ≤ l.length) : dF b least 0 l = l := by
  unfold dF; rw [if_pos rfl, show least - l.length = 0 by omega]; rfl
theorem dF_len {b least k : Nat} {l : List Nat} : l.length ≤ (dF b least k l).length := by
  unfold dF; split <;> simp only [List.length_append] <;> omega
/-- what they are -/
theorem dgs_spec {b p n : Nat} (h2 : 2 ≤ b) (h16 : b ≤ 16) (hp : p ≤ 6) (h : n < b ^ (40 + p)) : FigB b (dgs b p n) ∧ val b (dgs b p n) = n ∧ p + 1 ≤ (dgs b p n).length ∧ (dgs b p n).length ≤ 40 + p ∧ ((dgs b p n).getD 0 0 = 48 → (dgs b p n).length = p + 1) := by
  have s := figs_spec h2 h16 n n (Nat.le_refl _)
  have ln := figs_len h2 (39 + p) n (by rw [show 39 + p + 1 = 40 + p by omega]; exact h)
  have ps := List.length_pos_iff.mpr s.2.2.1
  have ld : (dgs b p n).length = p + 1 - (figs b n).length + (figs b n).length := by unfold dgs; rw [List.length_append, List.length_replicate]
  refine ⟨(FigB.noughts (by omega) _).app s.1, ?_, by omega, by omega, fun z => ?_⟩
  · unfold dgs; rw [val_noughts]; exact s.2.1
  · rcases Nat.lt_or_ge (p + 1) (figs b n).length with q | q
    · have e : dgs b p n = figs b n := by unfold dgs; rw [show p + 1 - (figs b n).length = 0 by omega]; rfl
      rw [e] at z
      have := s.2.2.2 z
      subst this
      rw [figs_lt (by omega)] at q
      simp at q
    · omega
/-- the whole part's figures, and the rest's -/
def whl (b p n : Nat) : List Nat := (dgs b p n).take ((dgs b p n).length - p)
def rst (b p n : Nat) : List Nat := (dgs b p n).drop ((dgs b p n).length - p)
def bdy (b p pt z m n : Nat) : List Nat := if p = 0 then gr z m (whl b p n) else gr z m (whl b p n) ++ [pt] ++ rst b p n
theorem whl_rst (b p n : Nat) : whl b p n ++ rst b p n = dgs b p n := List.take_append_drop _ _
theorem whl_spec {b p n : Nat} (h2 : 2 ≤ b) (h16 : b ≤ 16) (hp : p ≤ 6) (h : n < b ^ (40 + p)) : 1 ≤ (whl b p n).length ∧ (whl b p n).length ≤ 40 ∧ (rst b p n).length = p ∧ ((whl b p n).getD 0 0 = 48 → (whl b p n).length = 1) := by
  have s := dgs_spec h2 h16 hp h
  have lw : (whl b p n).length = (dgs b p n).length - p := by unfold whl; rw [List.length_take]; omega
  refine ⟨by omega, by omega, by unfold rst; rw [List.length_drop]; omega, fun z => ?_⟩
  have e : (whl b p n).getD 0 0 = (dgs b p n).getD 0 0 := by
    rw [← whl_rst b p n, getD_app1 (by omega)]
  rw [e] at z
  have := s.2.2.2.2 z
  omega
theorem rst_zero {b n : Nat} : rst b 0 n = [] := by unfold rst; rw [Nat.sub_zero, List.drop_length]
/-- walked from the front: a turn -/
theorem gr_front {z m k : Nat} {a : List Nat} (hk : k < a.length) : gr z m (a.drop k) = a.getD k 0 :: ((if 0 < z ∧ 0 < a.length - (k + 1) ∧ (a.length - (k + 1)) % z = 0 then [m] else []) ++ gr z m (a.drop (k + 1))) := by
  have t := gr_turn (z := z) (m := m) (a := a) (k := a.length - (k + 1)) (by omega)
  rw [show a.length - (a.length - (k + 1) + 1) = k by omega, show a.length - 1 - (a.length - (k + 1)) = k by omega, show a.length - (a.length - (k + 1)) = k + 1 by omega] at t
  exact t
end L2

set_option Elab.async false
set_option linter.all false
set_option maxRecDepth 100000
set_option maxHeartbeats 400000
namespace L2
open PySem PySem.Spec PyProof.Rows
/-! ### a dict that is asked by setdefault -/
def KnAt (P : Program) (w : World) (p : Addr) (kvs : List (Str × V)) (h : Heap) : Prop := (p == sysModules) = false ∧ MapAt P w p kvs h
def knO (P : Program) (w : World) (p : Addr) (kvs : List (Str × V)) : HO := .ext (KnAt P w p kvs)
theorem kn_ok {P : Program} {w : World} {H : Hp} {h : Heap} {p : Addr} {kvs : List (Str × V)} (m : KnAt P w p kvs h) : ObjOk P w H h p (knO P w p kvs) := by
  obtain ⟨_, e, k⟩ := map_ok (H := H) m.2
  exact ⟨m, e, fun h1 h2 m1 z => ⟨m1.1, k h1 h2 m1.2 z⟩⟩
section
variable {X : Cx} {H : Hp} {Q : VK} {K : PySem.W.Frag} {σ : St}
def tKn0 (P : Program) (w : World) : TE := fun σ H Q => ∀ p H', H p = none → Same H H' → H' p = some (knO P w p []) → Q (.ref p) H'
theorem pe_kn0 {pos : Pos} : PE X (.Dict [] [] pos) (tKn0 X.prog X.w) := fun pins s σ H Q I h => by
  have hm : mainGlobals < s.heap.objs.size := (I.mod.glob.keeps I.bk).lt
  have hb : sysModules < s.heap.objs.size := Nat.lt_trans (by decide) hm
  have hd : (s.heap.objs.size == sysModules) = false := beq_eq_false_iff_ne.mpr (Nat.ne_of_gt hb)
  exact wpAny_Dict_empty ⟨.ref s.heap.objs.size, _, I.laid (a := s.heap.objs.size) (o := knO X.prog X.w s.heap.objs.size []) (t' := s.toks) (fun _ _ q => Heap.get?_push_of_some _ q) (Nat.le_refl _) (kn_ok ⟨hd, [], Heap.DictOf.new _, rfl, .nil⟩), rfl, h _ _ I.fresh (same_new I.fresh _) upd_same⟩
theorem r_kn0 {P : Program} {w : World} (h : ∀ p H', H p = none → Same H H' → H' p = some (knO P w p []) → Q (.ref p) H') : tKn0 P w σ H Q := h
theorem look_none : ∀ {kvs : List (Str × V)} {us : List (Str × Value)} {z : Str}, us.map Prod.fst = kvs.map Prod.fst → lookV kvs z = none → valueAt us z = none
  | [], us, z, e, _ => by
    have : us = [] := by simpa using e
    subst this; rfl
  | kv :: kvs, [], z, e, h => by cases e
  | kv :: kvs, u :: us, z, e, h => by
    rw [List.map_cons, List.map_cons, List.cons.injEq] at e
    unfold lookV at h
    unfold valueAt
    rw [List.find?_cons] at h ⊢
    rw [e.1]
    by_cases hz : kv.1 = z
    · rw [decide_eq_true hz] at h; cases h
    · rw [decide_eq_false hz] at h ⊢
      exact look_none e.2 h
theorem look_there : ∀ {kvs : List (Str × V)} {us : List (Str × Value)} {z : Str} {u : Value}, us.map Prod.fst = kvs.map Prod.fst → Vals (kvs.map Prod.snd) (us.map Prod.snd) → valueAt us z = some u → ∃ v, lookV kvs z = some v ∧ RelV v u
  | kvs, us, z, u, e, r, h => by
    cases l : lookV kvs z with
    | none => rw [look_none e l] at h; cases h
    | some v =>
      obtain ⟨u', e', r'⟩ := look_rel e r l
      rw [h] at e'
      cases e'
      exact ⟨v, rfl, r'⟩
def rSetD (P : Program) (w : World) : V → List V → Hp → VK → Prop := fun x vs H Q => ∃ p kvs z v, x = .ref p ∧ vs = [.str z, v] ∧ H p = some (knO P w p kvs) ∧ kvs.length ≤ 1000 ∧ (∀ u, lookV kvs z = some u → Q u H) ∧ (lookV kvs z = none → ∀ H', SB p H H' → H' p = some (knO P w p (kvs ++ [(z, v)])) → Q v H')
theorem mt_setD : MtR X "dict.setdefault" (rSetD X.prog X.w) := by
  intro pins s σ H x vs v us Q I rx rv h
  obtain ⟨p, kvs, z, y, rfl, rfl, hp, hl, q1, q2⟩ := h
  cases rx
  obtain ⟨u1, u2, rfl, r1, r2⟩ := vals2 rv
  obtain ⟨t, rfl⟩ := r1
  obtain ⟨hd, us, dd, h3, h4⟩ := (I.hok _ _ hp).1
  have ln : us.length = kvs.length := by have := congrArg List.length h3; simpa using this
  refine call_meetsIn PySem.F.slot_dict_setdefault dd.typeIs PySem.F.entry_dict_setdefault (PySem.F.args_dict_setdefault_3 _ _ _) (kt_meets_setdefault (PySem.strKind X.prog X.w) (k := z) p (by simp [PySem.strKind, Value.isStrOf]) hd u2) ⟨us, dd, small (by omega), fun u hu => ?_, fun hn h' dd' hs => ?_⟩
  · obtain ⟨v', l, rv'⟩ := look_there h3 h4 hu
    exact ⟨v', H, I.tok _, rv', q1 v' l⟩
  · have ln0 : lookV kvs z = none := by
      cases l : lookV kvs z with
      | none => rfl
      | some v' =>
        obtain ⟨u', e', _⟩ := look_rel h3 h4 l
        rw [hn] at e'; cases e'
    have st : stored us z u2 = us ++ [(z, u2)] := by
      unfold stored
      have hany : (us.any fun kv => decide (kv.fst = z)) = false := by
        unfold valueAt at hn
        rw [Option.map_eq_none_iff, List.find?_eq_none] at hn
        rw [List.any_eq_false]
        intro kv hkv
        exact hn kv hkv
      rw [hany]; rfl
    rw [st] at dd'
    have he : ∃ q, h'.get? p = some q := let ⟨q, _, _, hq, _⟩ := dd'; ⟨q, hq⟩
    refine ⟨y, _, I.write (x := p) (e := p) (o := knO X.prog X.w p (kvs ++ [(z, y)])) (by rw [hp]; exact trivial) (.inl rfl) (fun b q hb z => (hs.2 b hb).trans z) he (kn_ok ⟨hd, us ++ [(z, u2)], dd', ?_, ?_⟩), r2, q2 ln0 _ (fun b o n z => by rw [upd_ne n]; exact z) upd_same⟩
    · rw [List.map_append, List.map_append, h3]; rfl
    · rw [List.map_append, List.map_append]; exact h4.append (.cons r2 .nil)
def tBMD (P : Program) (w : World) (r : V → List V → Hp → VK → Prop) (to : TE) (t : TA) : TE := fun σ H Q => to σ H fun x H1 => (∃ p kvs, x = .ref p ∧ H1 p = some (knO P w p kvs)) ∧ t σ H1 fun xs H2 => r x xs H2 Q
theorem pe_bmD {o e : Expr} {es : List Expr} {to : TE} {t : TA} {name : Str} {apos cpos : Pos} {id : String} {r : V → List V → Hp → VK → Prop} (slot : Slot "dict" name id) (hty : typeOf (.builtin id) = pure (.type "method_descriptor")) (hm : MtR X id r) (ho : PE X o to) (ha : PA X (e :: es) t)
    (hbase : attributeBase o name X.env (eval o X.env) = eval o X.env := by rfl)
    (hfew : ((backTo cpos (starEach (e :: es) X.env)).all (fun x => !x.1) && (backToKw cpos (keywordEach [] X.env)).all (fun x => x.1.isSome)
      && decide ((e :: es).length + ([] : List Keyword).length + (if ([] : List Keyword).isEmpty then 0 else 1) < 30)) = true := by rfl)
    (hline : (apos.endLine == cpos.line) = true := by rfl) (hs : starEach (e :: es) X.env = (false, eval e X.env) :: starEach es X.env := by rfl) (hplain : (backTo cpos (starEach es X.env)).any (·.1) = false := by rfl) :
    PE X (.Call (.Attribute o name apos) (e :: es) [] cpos) (tBMD X.prog X.w r to t) := by
  intro pins s σ H Q I h
  refine wpAny_Call_method_late hbase hfew hline rfl (thn (ho pins s σ H _ I h) fun v s1 ⟨x, H1, I1, r1, ⟨p, kvs, ex, hp⟩, q1⟩ => ?_)
  subst ex
  cases r1
  obtain ⟨_, us, ⟨ob, es', ep, hob, hx, _⟩, _⟩ := (I1.hok _ _ hp).1
  refine ⟨"dict", id, PySem.F.plainAttrs_dict, slot, hty, ⟨ob, hob, hx.1⟩, fun a ea => ?_, ?_⟩
  · cases ea; exact ⟨ob, hob, hx.2.1⟩
  have hA := ha cpos pins s1 σ H1 _ I1 q1
  rw [hs] at hA ⊢
  refine Calls.callWith_builtin (by show (false || (backTo cpos (starEach es X.env)).any (·.1)) = false; rw [hplain] <;> rfl) (Calls.evalArgs_plain ?_)
  exact thn hA fun us s2 ⟨vs, H2, I2, r2, q2⟩ => hm pins s2 σ H2 (.ref p) vs (.ref p) us Q I2 rfl r2 q2
theorem r_bmD {P : Program} {w : World} {r : V → List V → Hp → VK → Prop} {to : TE} {t : TA} (h : to σ H fun x H1 => (∃ p kvs, x = .ref p ∧ H1 p = some (knO P w p kvs)) ∧ t σ H1 fun xs H2 => r x xs H2 Q) : tBMD P w r to t σ H Q := h
/-- != of two truths -/
theorem r_neB {a b : Bool} (q : Q (.bl (!decide (a = b))) H) : rNe (.bl a) (.bl b) H Q := ⟨rfl, by
  have e : decide (V.bl a = V.bl b) = decide (a = b) := by
    by_cases h : a = b
    · rw [decide_eq_true h, decide_eq_true (congrArg V.bl h)]
    · rw [decide_eq_false h, decide_eq_false (fun z => h (V.bl.inj z))]
  rw [e]; exact q⟩
end
/-! ### cores -/
theorem RJ_mem {z m : Nat} : ∀ (k : Nat) (b : List Nat), b.length ≤ k → ∀ c ∈ RJ z m b, c ∈ b ∨ c = m
  | 0, b, h, c, hc => by rw [RJ_le (by omega)] at hc; exact .inl hc
  | k + 1, b, h, c, hc => by
    rcases Nat.eq_zero_or_pos z with p | p
    · subst p; rw [RJ_zero] at hc; exact .inl hc
    · rcases Nat.lt_or_ge z b.length with q | q
      · rw [RJ_gt p q] at hc
        rcases List.mem_append.mp hc with hc | hc
        · exact .inl (List.mem_of_mem_take hc)
        · rcases List.mem_cons.mp hc with hc | hc
          · exact .inr hc
          · rcases RJ_mem k (b.drop z) (by rw [List.length_drop]; omega) c hc with hc | hc
            · exact .inl (List.mem_of_mem_drop hc)
            · exact .inr hc
      · rw [RJ_le q] at hc; exact .inl hc
theorem gr_asc {z m : Nat} {a : List Nat} (h : Asc a) (hm : m < 127) : Asc (gr z m a) := fun c hc => by
  unfold gr at hc
  rcases RJ_mem _ a.reverse (Nat.le_refl _) c (List.mem_reverse.mp hc) with z | z
  · exact h c (List.mem_reverse.mp z)
  · rw [z]; exact hm
theorem RJ_head {z m : Nat} {b : List Nat} (h : 0 < b.length) : (RJ z m b).getD 0 0 = b.getD 0 0 := by
  rcases Nat.eq_zero_or_pos z with p | p
  · subst p; rw [RJ_zero]
  · rcases Nat.lt_or_ge z b.length with q | q
    · rw [RJ_gt p q, getD_app1 (by rw [List.length_take]; omega), List.getD_eq_getElem?_getD, List.getElem?_take, if_pos p, ← List.getD_eq_getElem?_getD]
    · rw [RJ_le q]
theorem gr_last {z m : Nat} {a : List Nat} (h : 0 < a.length) : (gr z m a).getD ((gr z m a).length - 1) 0 = a.getD (a.length - 1) 0 := by
  have l := gr_len (z := z) (m := m) (a := a)
  have e1 : (RJ z m a.reverse).getD 0 0 = a.reverse.getD 0 0 := RJ_head (by rw [List.length_reverse]; exact h)
  rw [getD_rev h] at e1
  have e2 : (gr z m a).reverse = RJ z m a.reverse := by unfold gr; rw [List.reverse_reverse]
  rw [← e2, getD_rev (by omega)] at e1
  rw [show (gr z m a).length - 1 = (gr z m a).length - 1 - 0 by omega, e1]; rfl
theorem gr_head {z m : Nat} {a : List Nat} (h : 0 < a.length) : (gr z m a).getD 0 0 = a.getD 0 0 := by
  have f := gr_front (z := z) (m := m) (a := a) (k := 0) h
  rw [List.drop_zero] at f
  rw [f]; rfl
theorem FigB.get {b : Int} {l : List Nat} (h : FigB b l) {i : Nat} (hi : i < l.length) : 0 ≤ fv (l.getD i 0) := by
  rw [List.getD_eq_getElem?_getD, List.getElem?_eq_getElem hi]; exact (h _ (List.getElem_mem hi)).2.1
theorem bdy_spec {b p pt z m n : Nat} (h2 : 2 ≤ b) (h16 : b ≤ 16) (hp : p ≤ 6) (h : n < b ^ (40 + p)) (hpt : pt < 127) (hm : m < 127) : Fg (bdy b p pt z m n) ∧ Asc (bdy b p pt z m n) ∧ (bdy b p pt z m n).length ≤ 100 := by
  have ds := dgs_spec h2 h16 hp h
  have ws := whl_spec h2 h16 hp h
  have wr := whl_rst b p n
  have fw : FigB b (whl b p n) := fun c hc => ds.1 c (by rw [← wr]; exact List.mem_append_left _ hc)
  have fr : FigB b (rst b p n) := fun c hc => ds.1 c (by rw [← wr]; exact List.mem_append_right _ hc)
  have gl := gr_len (z := z) (m := m) (a := whl b p n)
  have ag := gr_asc (z := z) (m := m) fw.asc hm
  unfold bdy Fg
  rcases Nat.eq_zero_or_pos p with q | q
  · rw [if_pos q]
    refine ⟨⟨List.length_pos_iff.mp (by omega), ?_, ?_⟩, ag, by omega⟩
    · rw [gr_head (by omega)]; exact fw.get (by omega)
    · rw [gr_last (by omega)]; exact fw.get (by omega)
  · rw [if_neg (by omega)]
    refine ⟨⟨by simp, ?_, ?_⟩, (ag.app (Asc.one hpt)).app fr.asc, by simp only [List.length_append, List.length_singleton]; omega⟩
    · rw [List.append_assoc, getD_app1 (by omega), gr_head (by omega)]; exact fw.get (by omega)
    · rw [getD_app2 (by simp only [List.length_append, List.length_singleton]; omega)]
      exact fr.get (by simp only [List.length_append, List.length_singleton]; omega)
theorem bdy_inj {b p pt z m n n' : Nat} (h2 : 2 ≤ b) (h16 : b ≤ 16) (hp : p ≤ 6) (h : n < b ^ (40 + p)) (h' : n' < b ^ (40 + p)) (e : bdy b p pt z m n = bdy b p pt z m n') : n = n' := by
  have ds := dgs_spec h2 h16 hp h
  have ds' := dgs_spec h2 h16 hp h'
  have ws := whl_spec h2 h16 hp h
  have ws' := whl_spec h2 h16 hp h'
  have fin : whl b p n = whl b p n' → rst b p n = rst b p n' → n = n' := fun e1 e2 => by
    have v1 := ds.2.1
    have v2 := ds'.2.1
    rw [← whl_rst, e1, e2, whl_rst] at v1
    omega
  unfold bdy at e
  rcases Nat.eq_zero_or_pos p with q | q
  · rw [if_pos q, if_pos q] at e
    have := congrArg (ug z) e
    rw [ug_gr, ug_gr] at this
    refine fin this ?_
    subst q; rw [rst_zero, rst_zero]
  · rw [if_neg (by omega), if_neg (by omega)] at e
    have e3 := List.append_inj_right' e (by omega)
    have e4 := List.append_inj_left' e (by omega)
    have e5 := List.append_inj_left' e4 rfl
    have := congrArg (ug z) e5
    rw [ug_gr, ug_gr] at this
    exact fin this e3
theorem bod_sg {x : Str} {b : Bool} {B : List Nat} : bod x b (stL x b ++ B ++ stT x b) = B := by
  unfold bod
  rw [show (stL x b ++ B ++ stT x b).length - (stT x b).length = (stL x b ++ B).length by simp only [List.length_append]; omega, List.take_append_of_le_length (Nat.le_refl _), List.take_length, List.drop_append, List.drop_of_length_le (Nat.le_refl _), Nat.sub_self]; rfl
end L2

set_option Elab.async false
set_option linter.all false
set_option maxRecDepth 100000
set_option maxHeartbeats 400000
namespace L2
open PySem PySem.Spec PyProof.Rows
/-! ### an error that flies on through a def -/
def PassOn (X : Cx) (E : XK) : Prop := ∀ (pins : List (Addr × Obj)) (σ : St) (e : Value) (s' : Shared), XP X pins σ E e s' → X.xe e s'
section
variable {P : Program} {w : World} {K : PySem.W.Frag} {mg : Str → Option Value} {base : Heap} {N : List Str} {qual : Str} {scope : Scope} {f : Addr} {cd : Value} {A : Around} {outer : List Env} {s : Shared} {H : Hp} {E : XK}
theorem passes_on : PassOn (cxOf (CXE P w) P w K mg base N qual scope f cd A outer s H E) E := by
  intro pins σ e s' h
  obtain ⟨H1, s1, I1, fl⟩ := h
  obtain ⟨x, C, a0, H', B, rfl, hos, hbare, fly, clo, hx1, hx2, q⟩ := fl
  refine wpAny_leaves_onW I1.ok.frames rfl fly fun h2 fly2 sm => ?_
  refine ⟨x, C, a0, H', B, rfl, hos.trans I1.os, hbare, fly2, fun h3 st sm3 => ?_, ?_, hx2, q⟩
  · have cl := clo h3 st (sm.trans sm3)
    have I3 := I1.call' (s' := { s' with heap := h3 }) hos cl.1 cl.2 hbare (fun b z => nomatch z)
    exact ⟨I3.base, I3.hok⟩
  · cases z : s.heap.get? x with
    | none => rfl
    | some o =>
      obtain ⟨o', e1⟩ := I1.base.there x o z (fun h => nomatch h)
      rw [hx1] at e1; cases e1
end
/-- a call of a def that may raise, from a def whose promise tells what then -/
theorem pe_callP {X : Cx} {x : Str} {k n : Nat} {ps : List Str} {sp : Sp} {p pos : Pos} {e : Expr} {es : List Expr} {t : TA} {E : XK} (F : HasX X.prog X.w X.K X.mg X.base x k ps sp) (pp : PassOn X E) (hr : Room n X.A) (hg : Gl X x) (ha : PA X (e :: es) t)
    (hk : k ≤ n := by decide)
    (hdb : (x == ("__debug__" : Str)) = false := by decide) (he : starEach (e :: es) X.env = (false, eval e X.env) :: starEach es X.env := by rfl) (hpl : (backTo pos (starEach es X.env)).any (·.1) = false := by rfl) :
    PE X (.Call (.Name x p) (e :: es) [] pos) (tCall sp [] E t) := by
  intro pins s σ H Q I h
  obtain ⟨f, fd, G, hm, kp, hb⟩ := F
  refine wpAny_Call_Name_kw (ld_glob I hg hm ?_ hdb)
  refine PySem.W.callWith_K (h₀ := X.base) I.ok.mod.kin kp (thn (ha pos pins s σ H _ I h) fun us s1 ⟨vs, H1, I1, r, q⟩ => ⟨I1.kIn, ?_⟩) he hpl
  have r2 : Vals (vs ++ []) (us ++ []) := r.append .nil
  have hl : (us ++ []).length = ps.length := by rw [← r2.length]; exact G.len _ _ _ _ q
  refine wpAny_call (codeAny_mono (G.run X.A X.stack s1 H1 ⟨us, []⟩ (us ++ []) (vs ++ []) Q E (hr.mono hk) I1.env0 (hb s1 us I1.kIn hl) r2 q) fun r s' hq => ?_)
  cases r with
  | error e => exact pp pins σ e s' ⟨H1, s1, I1, hq⟩
  | ok fl =>
    cases fl with
    | ret u => exact I1.after hq
    | next => exact hq.elim
    | brk => exact hq.elim
    | cont => exact hq.elim
end L2
namespace L2
open PySem PySem.Spec PyProof.Rows
theorem passes_cx {P : Program} {w : World} {K : PySem.W.Frag} {mg : Str → Option Value} {base : Heap} {N : List Str} {qual : Str} {scope : Scope} {f : Addr} {cd : Value} {A : Around} {outer : List Env} {s : Shared} {H : Hp} {E : XK} : Passes (CXE P w) (cxOf (CXE P w) P w K mg base N qual scope f cd A outer s H E) E := fun pins σ H1 s1 e s' I h => passes_on pins σ e s' ⟨H1, s1, I, h⟩
end L2

set_option Elab.async false
set_option linter.all false
set_option maxRecDepth 100000
set_option maxHeartbeats 400000
namespace L2
open PySem PySem.Spec PyProof.Rows
/-! ### lists of texts -/
abbrev tsV (ts : List (List Nat)) : List V := ts.map fun l => V.str (T l)
theorem flat_ts (ts : List (List Nat)) : (tsV ts).all flatV = true := by
  rw [List.all_eq_true]; intro x hx
  obtain ⟨l, _, rfl⟩ := List.mem_map.mp hx
  rfl
theorem getD_ts {ts : List (List Nat)} {j : Nat} (h : j < ts.length) : (tsV ts).getD j .non = .str (T (ts.getD j [])) := by
  simp [List.getD, h]
theorem eqV_T (a b : List Nat) : eqV (.str (T a)) (.str (T b)) = decide (a = b) := by
  show (T a == T b) = _
  rw [Bool.eq_iff_iff, beq_iff_eq, decide_eq_true_iff, T_eq]
theorem eq_ts {as bs : List (List Nat)} (h : as.length = bs.length) : ((List.range as.length).all fun j => eqV ((tsV as).getD j .non) ((tsV bs).getD j .non)) = decide (as = bs) := by
  rw [Bool.eq_iff_iff, List.all_eq_true, decide_eq_true_iff]
  constructor
  · intro k
    refine List.ext_getElem h fun i h1 h2 => ?_
    have := k i (List.mem_range.mpr h1)
    rw [getD_ts h1, getD_ts h2, eqV_T, decide_eq_true_iff] at this
    simpa [List.getD, h1, h2] using this
  · rintro rfl j hj
    have hj' := List.mem_range.mp hj
    rw [getD_ts hj', eqV_T, decide_eq_true_iff]
section
variable {X : Cx} {H : Hp} {Q : VK} {K : PySem.W.Frag}
def rEqLs (K : PySem.W.Frag) : R2 := fun x y H Q => ∃ (p q : Addr) (as bs : List (List Nat)), x = .ref p ∧ y = .ref q ∧ SqL K H p (tsV as) ∧ SqL K H q (tsV bs) ∧ Q (.bl (decide (as = bs))) H
def rNeLs (K : PySem.W.Frag) : R2 := fun x y H Q => ∃ (p q : Addr) (as bs : List (List Nat)), x = .ref p ∧ y = .ref q ∧ SqL K H p (tsV as) ∧ SqL K H q (tsV bs) ∧ Q (.bl (!decide (as = bs))) H
theorem op_eqLs (hu : X.A.units < cLine) : OpR X (compareOp .Eq) (rEqLs X.K) := by
  intro pins s σ H x y v u Q I rx ry h
  obtain ⟨p, q, as, bs, rfl, rfl, hx, hy, k⟩ := h
  cases rx; cases ry
  obtain ⟨its, r, pl, hz⟩ := I.list hx
  obtain ⟨its2, r2, pl2, hz2⟩ := I.list hy
  have e1 : its.toArray.size = as.length := by have := r.length; rw [List.length_map] at this; simp [← this]
  have e2 : its2.toArray.size = bs.length := by have := r2.length; rw [List.length_map] at this; simp [← this]
  by_cases hl : as.length = bs.length
  · refine SeqAt.eq_listAt (e := fun j => eqV ((tsV as).getD j .non) ((tsV bs).getD j .non)) pl.isList pl2.isList (by omega) hu (fun j h1 h2 => ?_) ⟨.bl _, H, I, rfl, ?_⟩
    · exact eqAt_V (by simpa using Vals.getD j (by simpa using h1) r) (by simpa using Vals.getD j (by simpa using h2) r2) (flat_getD j (flat_ts as)) (flat_getD j (flat_ts bs))
    · rw [e1, eq_ts hl]; exact k
  · refine SeqAt.eq_list_lengthsAt pl.isList pl2.isList (by rw [e1, e2]; simpa using hl) hu ⟨.bl _, H, I, rfl, ?_⟩
    rw [decide_eq_false (fun e => hl (by rw [e]))] at k; exact k
theorem op_neLs (hu : X.A.units < cLine) : OpR X (compareOp .NotEq) (rNeLs X.K) := by
  intro pins s σ H x y v u Q I rx ry h
  obtain ⟨p, q, as, bs, rfl, rfl, hx, hy, k⟩ := h
  cases rx; cases ry
  obtain ⟨its, r, pl, hz⟩ := I.list hx
  obtain ⟨its2, r2, pl2, hz2⟩ := I.list hy
  have e1 : its.toArray.size = as.length := by have := r.length; rw [List.length_map] at this; simp [← this]
  have e2 : its2.toArray.size = bs.length := by have := r2.length; rw [List.length_map] at this; simp [← this]
  by_cases hl : as.length = bs.length
  · refine SeqAt.RcNeAt.lists (e := fun j => eqV ((tsV as).getD j .non) ((tsV bs).getD j .non)) pl.isList pl2.isList (by omega) hu (fun j h1 h2 => ?_) _ _ _ _ ⟨.bl _, H, I, rfl, ?_⟩
    · exact eqAt_V (by simpa using Vals.getD j (by simpa using h1) r) (by simpa using Vals.getD j (by simpa using h2) r2) (flat_getD j (flat_ts as)) (flat_getD j (flat_ts bs))
    · rw [e1, eq_ts hl]; exact k
  · refine SeqAt.RcNeAt.lists_lengths pl.isList pl2.isList (by rw [e1, e2]; simpa using hl) hu _ _ _ _ ⟨.bl _, H, I, rfl, ?_⟩
    rw [decide_eq_false (fun e => hl (by rw [e]))] at k; exact k
theorem r_eqLs {p q : Addr} {as bs : List (List Nat)} (h1 : SqL K H p (tsV as)) (h2 : SqL K H q (tsV bs)) (k : Q (.bl (decide (as = bs))) H) : rEqLs K (.ref p) (.ref q) H Q := ⟨p, q, as, bs, rfl, rfl, h1, h2, k⟩
theorem r_neLs {p q : Addr} {as bs : List (List Nat)} (h1 : SqL K H p (tsV as)) (h2 : SqL K H q (tsV bs)) (k : Q (.bl (!decide (as = bs))) H) : rNeLs K (.ref p) (.ref q) H Q := ⟨p, q, as, bs, rfl, rfl, h1, h2, k⟩
theorem inV_ts (t : List Nat) (ts : List (List Nat)) : inV (.str (T t)) (tsV ts) = decide (t ∈ ts) := by
  unfold inV
  rw [Bool.eq_iff_iff, List.any_eq_true, decide_eq_true_iff]
  constructor
  · rintro ⟨y, hy, e⟩
    obtain ⟨l, hl, rfl⟩ := List.mem_map.mp hy
    rw [eqV_T, decide_eq_true_iff] at e
    exact e ▸ hl
  · intro h
    exact ⟨_, List.mem_map.mpr ⟨t, h, rfl⟩, by rw [eqV_T, decide_eq_true_iff]⟩
theorem r_inTs {p : Addr} {t : List Nat} {ts : List (List Nat)} (h : SqL K H p (tsV ts)) (q : Q (.bl (decide (t ∈ ts))) H) : rIn K false (.str (T t)) (.ref p) H Q := ⟨p, _, rfl, .inl h, rfl, flat_ts ts, by rw [inV_ts]; exact q⟩
theorem r_ninTs {p : Addr} {t : List Nat} {ts : List (List Nat)} (h : SqL K H p (tsV ts)) (q : Q (.bl (!decide (t ∈ ts))) H) : rIn K true (.str (T t)) (.ref p) H Q := ⟨p, _, rfl, .inl h, rfl, flat_ts ts, by rw [inV_ts]; exact q⟩
theorem r_ixTsL {p : Addr} {ts : List (List Nat)} (h : SqL K H p (tsV ts)) (h0 : 0 < ts.length) (q : Q (.str (T (ts.getD (ts.length - 1) []))) H) : rIxL K (.ref p) (.int (-1)) H Q := by
  refine r_ixL h (v := .str (T (ts.getD (ts.length - 1) []))) ?_ q
  unfold atI ixN
  rw [List.length_map, if_neg (show ¬ (0 : Int) ≤ -1 by decide), if_pos (show -(ts.length : Int) ≤ -1 by omega)]
  show (tsV ts)[((-1 : Int) + ts.length).toNat]? = _
  rw [show ((-1 : Int) + ts.length).toNat = ts.length - 1 by omega, List.getElem?_map, List.getD_eq_getElem?_getD, List.getElem?_eq_getElem (by omega)]
  rfl
/-- the last sign, as a slice -/
theorem rTT_slL {a : List Nat} (hz : a.length ≤ 16777216) (q : Q (.str (T (a.drop (a.length - 1)))) H) : rSlS (.str (T a)) (some (-1)) none H Q := by
  refine r_slS hz ?_
  rw [slice_T, Lt_T]
  have e : cl a.length 0 (some (-1)) = a.length - 1 := by unfold cl; dsimp only; rw [if_pos (by decide)]; omega
  rw [e, show cl a.length a.length none = a.length from rfl, List.take_length]; exact q
theorem r_clear {l : Addr} {xs : List V} (h : H l = some (.lst xs)) (q : Q .non (upd H l (.lst []))) : rClear (.ref l) [] H Q := ⟨l, xs, rfl, rfl, h, q⟩
def rListOf (K : PySem.W.Frag) : List V → Hp → VK → Prop := fun xs H Q => ∃ p ys, xs = [.ref p] ∧ (SqL K H p ys ∨ SqT K H p ys) ∧ ∀ l, H l = none → Q (.ref l) (upd H l (.lst ys))
theorem call_listOf : CallR X (.type "list") (rListOf X.K) := call_list_of
theorem r_listOf {p : Addr} {ys : List V} (h : SqL K H p ys) (q : ∀ l H', Same H H' → H l = none → H' l = some (.lst ys) → Q (.ref l) H') : rListOf K [.ref p] H Q := ⟨p, ys, rfl, .inl h, fun l hl => q l _ (same_upd (Same.refl _) hl) hl upd_same⟩
theorem r_kLstN {xs : List V} (hz : xs.length ≤ sizeLine) (q : ∀ l H', Same H H' → H l = none → H' l = some (.lst xs) → Q (.ref l) H') : kLst Q xs H := ⟨hz, fun l hl => q l _ (same_upd (Same.refl _) hl) hl upd_same⟩
theorem Same.freeX {H H' : Hp} {p : Addr} (g : Same H H') (h : H' p = Option.none) : H p = Option.none := g.free h
theorem r_isi_ll {p : Addr} {xs : List V} (h : H p = some (.lst xs)) (q : Q (.bl true) H) : rIsi K [.ref p, .ty "list"] H Q := r_isi (.lst h) ⟨_, .inl rfl⟩ (kit_list_list K) q
/-! ### startswith -/
def rStartT : V → List V → Hp → VK → Prop := fun x xs H Q => ∃ a b : List Nat, x = .str (T a) ∧ xs = [.str (T b)] ∧ Q (.bl (decide (a.take b.length = b))) H
theorem start_T (a b : List Nat) : Txt.startswith (T a) (T b) = decide (a.take b.length = b) := by
  have la : (T a).length = a.length := rfl
  have lb : (T b).length = b.length := rfl
  unfold Txt.startswith
  rw [StrLaws.subAt_eq, List.drop_zero, la, lb]
  show (decide (0 + b.length ≤ a.length) && (a.take b.length == b)) = _
  rw [Bool.eq_iff_iff, Bool.and_eq_true, decide_eq_true_iff, decide_eq_true_iff, beq_iff_eq]
  constructor
  · exact fun h => h.2
  · intro h
    have := congrArg List.length h
    rw [List.length_take] at this
    exact ⟨by omega, h⟩
theorem mt_startswithT : MtR X "str.startswith" rStartT := by
  intro pins s σ H x xs v us Q I rx rv h
  obtain ⟨a, b, rfl, rfl, q⟩ := h
  obtain ⟨t, rfl⟩ := rx
  obtain ⟨u, rfl, ru⟩ := rv.one
  obtain ⟨t', rfl⟩ := ru
  exact SC.startswith ⟨.bl _, H, I, rfl, by rw [start_T]; exact q⟩
theorem r_startT {a b : List Nat} (q : Q (.bl (decide (a.take b.length = b))) H) : rStartT (.str (T a)) [.str (T b)] H Q := ⟨a, b, rfl, rfl, q⟩
end
end L2

set_option Elab.async false
set_option linter.all false
set_option maxRecDepth 100000
set_option maxHeartbeats 400000
namespace L2
open PySem PySem.Spec PyProof.Rows
/-! ### fills -/
def lk (n w : Int) : Int := if n < w then w - n else 0
def Side (x : Str) : Prop := x = "left" ∨ x = "right" ∨ x = "middle"
def pA (x : Str) (n w : Int) : Int := if x = "left" then 0 else if x = "right" then lk n w else lk n w / 2
def pB (x : Str) (n w : Int) : Int := lk n w - pA x n w
theorem lk_bd (n w : Int) (h0 : 0 ≤ n) (hw : w ≤ 40) : 0 ≤ lk n w ∧ lk n w ≤ 40 ∧ (w ≤ n → lk n w = 0) ∧ (n ≤ w → lk n w = w - n) := by unfold lk; split <;> omega
theorem pAl (n w : Int) : pA "left" n w = 0 := by unfold pA; rw [if_pos rfl]
theorem pAr (n w : Int) : pA "right" n w = lk n w := by unfold pA; rw [if_neg (by decide +kernel), if_pos rfl]
theorem pAm (n w : Int) : pA "middle" n w = lk n w / 2 := by unfold pA; rw [if_neg (by decide +kernel), if_neg (by decide +kernel)]
def PadsB (x : Str) (n w : Int) : Prop := 0 ≤ pA x n w ∧ 0 ≤ pB x n w ∧ pA x n w + pB x n w = lk n w ∧ (x = "left" → pA x n w = 0) ∧ (x = "right" → pB x n w = 0) ∧ (x = "middle" → pB x n w = pA x n w ∨ pB x n w = pA x n w + 1)
theorem pads_bd {x : Str} {n w : Int} (hs : Side x) (h0 : 0 ≤ n) (hw : w ≤ 40) : PadsB x n w := by
  have b := lk_bd n w h0 hw
  unfold PadsB pB
  rcases hs with rfl | rfl | rfl
  · rw [pAl]; exact ⟨by omega, by omega, by omega, fun _ => rfl, fun h => absurd h (by decide +kernel), fun h => absurd h (by decide +kernel)⟩
  · rw [pAr]; exact ⟨by omega, by omega, by omega, fun h => absurd h (by decide +kernel), fun _ => by omega, fun h => absurd h (by decide +kernel)⟩
  · rw [pAm]; exact ⟨by omega, by omega, by omega, fun h => absurd h (by decide +kernel), fun h => absurd h (by decide +kernel), fun _ => by omega⟩
def pad (t : List Nat) (w : Int) (f : Nat) (x : Str) : List Nat := List.replicate (pA x t.length w).toNat f ++ t ++ List.replicate (pB x t.length w).toNat f
theorem pad_len {t : List Nat} {w : Int} {f : Nat} {x : Str} (h : PadsB x t.length w) : ((pad t w f x).length : Int) = t.length + lk t.length w := by
  unfold pad; obtain ⟨h1, h2, h3, _⟩ := h
  simp only [List.length_append, List.length_replicate]; omega
theorem pad_in {t : List Nat} {w : Int} {f : Nat} {x : Str} {k : Nat} (h : PadsB x t.length w) (h1 : pA x t.length w ≤ k) (h2 : (k : Int) < pA x t.length w + t.length) : (pad t w f x).getD k 0 = t.getD (k - pA x t.length w).toNat 0 := by
  obtain ⟨a1, a2, a3, _⟩ := h
  unfold pad
  rw [List.append_assoc, getD_app2 (by rw [List.length_replicate]; omega), List.length_replicate, getD_app1 (by omega)]
  congr 1; omega
theorem pad_out {t : List Nat} {w : Int} {f : Nat} {x : Str} {k : Nat} (h : PadsB x t.length w) (h1 : (k : Int) < pA x t.length w ∨ pA x t.length w + t.length ≤ k) (h2 : k < (pad t w f x).length) : (pad t w f x).getD k 0 = f := by
  have hl := pad_len (f := f) h
  obtain ⟨a1, a2, a3, _⟩ := h
  unfold pad
  rcases h1 with h1 | h1
  · rw [List.append_assoc, getD_app1 (by rw [List.length_replicate]; omega), getD_rep (by omega)]
  · rw [getD_app2 (by rw [List.length_append, List.length_replicate]; omega), getD_rep (by rw [List.length_append, List.length_replicate]; omega)]
theorem pad_same {t : List Nat} {w : Int} {f : Nat} {x : Str} (h : PadsB x t.length w) (h1 : w ≤ t.length) (h2 : w ≤ 40) : pad t w f x = t := by
  have b := lk_bd t.length w (by omega) h2
  obtain ⟨a1, a2, a3, _⟩ := h
  unfold pad
  rw [show (pA x t.length w).toNat = 0 by omega, show (pB x t.length w).toNat = 0 by omega]; simp
/-! ### fills taken off -/
/-- the n signs of a text that stand behind the fills ahead -/
def sl (t : List Nat) (w : Int) (x : Str) (n : Nat) : List Nat := (t.take ((pA x n w) + n).toNat).drop (pA x n w).toNat
def gd (t : List Nat) (w : Int) (f : Nat) (x : Str) (n : Nat) : Bool := decide (pad (sl t w x n) w f x = t)
def strips (t : List Nat) (w : Int) (f : Nat) (x : Str) : List (List Nat) := if w < t.length then [t] else ((List.range (w + 1).toNat).filter (gd t w f x)).map (sl t w x)
theorem filter_mono {p : Nat → Bool} : ∀ N : Nat, (∀ n, n + 1 < N → p n = true → p (n + 1) = true) → ∃ m, m ≤ N ∧ (List.range N).filter p = List.range' m (N - m) ∧ (∀ n, n < m → p n = false) ∧ ∀ n, m ≤ n → n < N → p n = true
  | 0, _ => ⟨0, Nat.le_refl _, rfl, fun n h => absurd h (Nat.not_lt_zero n), fun n _ h => absurd h (Nat.not_lt_zero n)⟩
  | N + 1, h => by
    obtain ⟨m, hm, e, h1, h2⟩ := filter_mono N (fun n hn => h n (by omega))
    cases hp : p N with
    | true =>
      refine ⟨m, by omega, ?_, h1, fun n a b => ?_⟩
      · rw [List.range_succ, List.filter_append, e, List.filter_cons, if_pos hp, List.filter_nil, show N + 1 - m = N - m + 1 by omega, List.range'_concat]
        congr 2; omega
      · rcases Nat.lt_or_ge n N with q | q
        · exact h2 n a q
        · rw [show n = N by omega]; exact hp
    | false =>
      have hmN : m = N := by
        rcases Nat.lt_or_ge m N with q | q
        · have := h (N - 1) (by omega) (h2 (N - 1) (by omega) (by omega))
          rw [show N - 1 + 1 = N by omega, hp] at this; cases this
        · omega
      refine ⟨N + 1, Nat.le_refl _, ?_, fun n a => ?_, fun n a b => absurd b (by omega)⟩
      · rw [List.range_succ, List.filter_append, e, hmN, List.filter_cons, hp]; simp
      · rcases Nat.lt_or_ge n N with q | q
        · exact h1 n (by omega)
        · rw [show n = N by omega]; exact hp
/-- where the fills stand, all in numbers from 0 on -/
theorem pA_nat {x : Str} {n : Nat} {w : Int} (hs : Side x) (h : (n : Int) ≤ w) (hw : w ≤ 40) : ∃ a b : Nat, pA x n w = a ∧ pB x n w = b ∧ (a + b + n : Int) = w ∧ (x = "left" → a = 0) ∧ (x = "right" → b = 0) ∧ (x = "middle" → a = (w.toNat - n) / 2) := by
  have b := pads_bd (n := n) hs (by omega) hw
  have l := lk_bd n w (by omega) hw
  obtain ⟨b1, b2, b3, b4, b5, b6⟩ := b
  refine ⟨(pA x n w).toNat, (pB x n w).toNat, by omega, by omega, by omega, fun h => by have := b4 h; omega, fun h => by have := b5 h; omega, fun h => by have := b6 h; omega⟩
theorem sl_nat {t : List Nat} {w : Int} {x : Str} {n a : Nat} (e : pA x n w = a) : sl t w x n = (t.take (a + n)).drop a := by
  unfold sl; rw [e]; congr 1
theorem sl_len {t : List Nat} {w : Int} {x : Str} {n : Nat} (hs : Side x) (h : (n : Int) ≤ w) (hw : w ≤ 40) (ht : (t.length : Int) = w) : (sl t w x n).length = n := by
  obtain ⟨a, b, e1, e2, e3, _⟩ := pA_nat hs h hw
  rw [sl_nat e1, List.length_drop, List.length_take]; omega
theorem gd_iff {t : List Nat} {w : Int} {f : Nat} {x : Str} {n a b : Nat} (e1 : pA x n w = a) (e2 : pB x n w = b) (e3 : (a + b + n : Int) = w) (ht : (t.length : Int) = w) : gd t w f x n = true ↔ t.take a = List.replicate a f ∧ t.drop (a + n) = List.replicate b f := by
  have hl : (sl t w x n).length = n := by rw [sl_nat e1, List.length_drop, List.length_take]; omega
  unfold gd pad
  rw [decide_eq_true_iff, hl, e1, e2, Int.toNat_natCast, Int.toNat_natCast, sl_nat e1]
  have k : t = t.take a ++ (t.take (a + n)).drop a ++ t.drop (a + n) := by
    have h1 : t.take a ++ (t.take (a + n)).drop a = t.take (a + n) := by
      rw [show t.take a = (t.take (a + n)).take a by rw [List.take_take, Nat.min_eq_left (by omega)], List.take_append_drop]
    rw [h1, List.take_append_drop]
  constructor
  · intro h
    have h1 := congrArg (List.take a) h
    have h2 := congrArg (List.drop (a + n)) h
    rw [List.append_assoc, List.take_left' (by rw [List.length_replicate])] at h1
    rw [List.drop_left' (by rw [List.length_append, List.length_replicate, List.length_drop, List.length_take]; omega)] at h2
    exact ⟨h1.symm, h2.symm⟩
  · rintro ⟨h1, h2⟩
    rw [← h1, ← h2]; exact k.symm
/-- the one more sign that is taken -/
theorem pA_step {x : Str} {n a b a' b' : Nat} {w : Int} (hs : Side x) (e3 : (a + b + n : Int) = w) (e3' : (a' + b' + (n + 1 : Nat) : Int) = w) (l : x = "left" → a = 0) (l' : x = "left" → a' = 0) (r : x = "right" → b = 0) (r' : x = "right" → b' = 0) (m : x = "middle" → a = (w.toNat - n) / 2) (m' : x = "middle" → a' = (w.toNat - (n + 1)) / 2) :
    (a' = a ∧ b = b' + 1 ∧ (x = "left" ∨ (x = "middle" ∧ (w - n) % 2 = 1))) ∨ (a = a' + 1 ∧ b = b' ∧ ¬ (x = "left" ∨ (x = "middle" ∧ (w - n) % 2 = 1))) := by
  rcases hs with h | h | h
  · have := l h; have := l' h; exact .inl ⟨by omega, by omega, .inl h⟩
  · have := r h; have := r' h; refine .inr ⟨by omega, by omega, ?_⟩
    rintro (h2 | ⟨h2, _⟩)
    · rw [h] at h2; exact absurd h2 (by decide +kernel)
    · rw [h] at h2; exact absurd h2 (by decide +kernel)
  · have := m h; have := m' h
    by_cases o : (w - n) % 2 = 1
    · exact .inl ⟨by omega, by omega, .inr ⟨h, o⟩⟩
    · refine .inr ⟨by omega, by omega, ?_⟩
      rintro (h2 | ⟨_, h2⟩)
      · rw [h] at h2; exact absurd h2 (by decide +kernel)
      · exact o h2
def nxt (t : List Nat) (w : Int) (f : Nat) (x : Str) : List Nat := if x = "left" ∨ (x = "middle" ∧ (w - t.length) % 2 = 1) then t ++ [f] else [f] ++ t
theorem gd_step {t : List Nat} {w : Int} {f : Nat} {x : Str} {n : Nat} (hs : Side x) (h : ((n + 1 : Nat) : Int) ≤ w) (hw : w ≤ 40) (ht : (t.length : Int) = w) (g : gd t w f x n = true) : gd t w f x (n + 1) = true ∧ sl t w x (n + 1) = nxt (sl t w x n) w f x := by
  obtain ⟨a, b, e1, e2, e3, l, r, m⟩ := pA_nat (n := n) hs (by omega) hw
  obtain ⟨a', b', e1', e2', e3', l', r', m'⟩ := pA_nat (n := n + 1) hs h hw
  have hl : (sl t w x n).length = n := sl_len hs (by omega) hw ht
  obtain ⟨g1, g2⟩ := (gd_iff e1 e2 e3 ht).mp g
  rw [gd_iff e1' e2' e3' ht, sl_nat e1', nxt, hl, sl_nat e1]
  rcases pA_step hs e3 e3' l l' r r' m m' with ⟨rfl, rfl, c⟩ | ⟨rfl, rfl, c⟩
  · rw [if_pos c]
    have e : t.drop (a' + n + 1) = List.replicate b' f := by rw [← List.drop_drop, g2, List.replicate_succ]; rfl
    refine ⟨⟨g1, e⟩, ?_⟩
    have k : t.take (a' + (n + 1)) = t.take (a' + n) ++ [f] := by
      rw [← Nat.add_assoc, List.take_succ]
      congr 1
      have : (t.drop (a' + n))[0]? = some f := by rw [g2, List.replicate_succ]; rfl
      rw [List.getElem?_drop, Nat.add_zero] at this
      rw [this]; rfl
    rw [k, List.drop_append_of_le_length (by rw [List.length_take]; omega)]
  · rw [if_neg c]
    have e : t.take a' = List.replicate a' f := by
      have := congrArg (List.take a') g1
      rw [List.take_take, Nat.min_eq_left (by omega), List.take_replicate, Nat.min_eq_left (by omega)] at this; exact this
    refine ⟨⟨e, by rw [show a' + (n + 1) = a' + 1 + n by omega]; exact g2⟩, ?_⟩
    have k : t[a']? = some f := by
      have := congrArg (fun z : List Nat => z[a']?) g1
      simpa [List.getElem?_take] using this
    rw [show a' + (n + 1) = a' + 1 + n by omega]
    have hk : a' < (t.take (a' + 1 + n)).length := by rw [List.length_take]; omega
    rw [List.drop_eq_getElem_cons hk]
    have : (t.take (a' + 1 + n))[a'] = f := by
      have q : (t.take (a' + 1 + n))[a']? = some f := by rw [List.getElem?_take, if_pos (by omega)]; exact k
      rw [List.getElem?_eq_getElem hk] at q; exact Option.some.inj q
    rw [this]; rfl
theorem sl_all {t : List Nat} {w : Int} {x : Str} (hs : Side x) (h0 : 0 ≤ w) (hw : w ≤ 40) (ht : (t.length : Int) = w) : sl t w x w.toNat = t := by
  obtain ⟨a, b, e1, e2, e3, _⟩ := pA_nat (n := w.toNat) hs (by omega) hw
  rw [sl_nat e1, show a = 0 by omega, List.drop_zero, List.take_of_length_le (by omega)]
theorem gd_all {t : List Nat} {w : Int} {f : Nat} {x : Str} (hs : Side x) (h0 : 0 ≤ w) (hw : w ≤ 40) (ht : (t.length : Int) = w) : gd t w f x w.toNat = true := by
  obtain ⟨a, b, e1, e2, e3, _⟩ := pA_nat (n := w.toNat) hs (by omega) hw
  rw [gd_iff e1 e2 e3 ht, show a = 0 by omega, show b = 0 by omega]
  exact ⟨rfl, List.drop_of_length_le (by omega)⟩
/-- what a text as long as the width is stripped to -/
theorem strips_run {t : List Nat} {w : Int} {f : Nat} {x : Str} (hs : Side x) (hw : w ≤ 40) (ht : (t.length : Int) = w) : ∃ m, m ≤ w.toNat ∧ strips t w f x = (List.range' m (w.toNat + 1 - m)).map (sl t w x) ∧ (∀ n, n < m → gd t w f x n = false) ∧ ∀ n, m ≤ n → n ≤ w.toNat → gd t w f x n = true := by
  obtain ⟨m, hm, e, h1, h2⟩ := filter_mono (p := gd t w f x) (w.toNat + 1) (fun n hn g => (gd_step hs (by omega) hw ht g).1)
  have hm' : m ≤ w.toNat := by
    rcases Nat.lt_or_ge w.toNat m with q | q
    · have := h1 _ q; rw [gd_all hs (by omega) hw ht] at this; cases this
    · exact q
  refine ⟨m, hm', ?_, h1, fun n a b => h2 n a (by omega)⟩
  unfold strips
  rw [if_neg (by omega), show (w + 1).toNat = w.toNat + 1 by omega, e]
theorem strips_long {t : List Nat} {w : Int} {f : Nat} {x : Str} (h : w < t.length) : strips t w f x = [t] := by unfold strips; rw [if_pos h]
theorem strips_short {t : List Nat} {w : Int} {f : Nat} {x : Str} (hs : Side x) (hw : w ≤ 40) (h : (t.length : Int) < w) : strips t w f x = [] := by
  unfold strips
  rw [if_neg (by omega), List.filter_eq_nil_iff.mpr, List.map_nil]
  intro n _ g
  unfold gd at g
  have g' := congrArg List.length (of_decide_eq_true g)
  have b := pads_bd (n := (sl t w x n).length) hs (by omega) hw
  have l := pad_len (f := f) b
  have c := lk_bd (sl t w x n).length w (by omega) hw
  omega
/-- a text is among those that its padding is stripped to -/
theorem sl_pad {t : List Nat} {w : Int} {f : Nat} {x : Str} (hs : Side x) (hw : w ≤ 40) (h : (t.length : Int) ≤ w) : sl (pad t w f x) w x t.length = t ∧ gd (pad t w f x) w f x t.length = true ∧ ((pad t w f x).length : Int) = w := by
  obtain ⟨a, b, e1, e2, e3, _⟩ := pA_nat (n := t.length) hs h hw
  have hl : sl (pad t w f x) w x t.length = t := by
    rw [sl_nat e1]; unfold pad
    rw [e1, e2, Int.toNat_natCast, Int.toNat_natCast, List.take_left' (by rw [List.length_append, List.length_replicate]), List.drop_left' (by rw [List.length_replicate])]
  refine ⟨hl, ?_, ?_⟩
  · unfold gd; rw [hl, decide_eq_true_iff]
  · have l := pad_len (f := f) (pads_bd (n := t.length) hs (by omega) hw)
    have c := lk_bd t.length w (by omega) hw
    omega
def Fst (t : List Nat) (w : Int) (f : Nat) (x : Str) : Prop := w < t.length ∨ ((x = "left" → t.drop (t.length - 1) ≠ [f]) ∧ (x = "right" → t.take 1 ≠ [f]) ∧ (x = "middle" → t.take 1 ≠ [f] ∧ t.drop (t.length - 1) ≠ [f]))
theorem getD_run {g : Nat → List Nat} {m k n : Nat} (h : k < n) : ((List.range' m n).map g).getD k [] = g (m + k) := by
  rw [List.getD_eq_getElem?_getD, List.getElem?_map, List.getElem?_range' h]; simp
structure Fnd (t : List Nat) (w : Int) (f : Nat) (x : Str) (W : List Nat) (F : List (List Nat)) : Prop where
  has : t ∈ F
  pos : 0 < F.length
  last : F.getD (F.length - 1) [] = W
  each : ∀ k, k < F.length → pad (F.getD k []) w f x = W
  len : ∀ k, k < F.length → (F.getD k []).length ≤ W.length
  next : ∀ k, 0 < k → k < F.length → F.getD k [] = nxt (F.getD (k - 1) []) w f x
  first : Fst t w f x → F.getD 0 [] = t
theorem fnd {t : List Nat} {w : Int} {f : Nat} {x : Str} (hs : Side x) (hw : w ≤ 40) : Fnd t w f x (pad t w f x) (strips (pad t w f x) w f x) := by
  rcases Int.lt_or_le w t.length with q | q
  · have e : pad t w f x = t := pad_same (pads_bd hs (by omega) hw) (by omega) hw
    rw [e, strips_long q]
    exact ⟨by simp, by simp, rfl, fun k hk => by rw [show k = 0 by simpa using hk]; exact e, fun k hk => by rw [show k = 0 by simpa using hk]; exact Nat.le_refl _, fun k h1 h2 => by simp at h2; omega, fun _ => rfl⟩
  · have h0 : 0 ≤ w := by omega
    obtain ⟨p1, p2, p3⟩ := sl_pad (f := f) hs hw q
    obtain ⟨m, hm, e, g1, g2⟩ := strips_run (f := f) hs hw p3
    have hmt : m ≤ t.length := by
      rcases Nat.lt_or_ge t.length m with r | r
      · have := g1 _ r; rw [p2] at this; cases this
      · exact r
    generalize pad t w f x = W at *
    have hl : (strips W w f x).length = w.toNat + 1 - m := by rw [e, List.length_map, List.length_range']
    have hg : ∀ k, k < (strips W w f x).length → (strips W w f x).getD k [] = sl W w x (m + k) := fun k hk => by
      rw [hl] at hk; rw [e, getD_run hk]
    refine ⟨?_, by omega, ?_, fun k hk => ?_, fun k hk => ?_, fun k h1 h2 => ?_, fun hf => ?_⟩
    · rw [e, List.mem_map]
      refine ⟨t.length, ?_, p1⟩
      rw [List.mem_range']; exact ⟨t.length - m, by omega, by omega⟩
    · rw [hg _ (by omega), hl, show m + (w.toNat + 1 - m - 1) = w.toNat by omega, sl_all hs h0 hw p3]
    · rw [hg k hk]
      have := g2 (m + k) (by omega) (by omega)
      exact of_decide_eq_true this
    · rw [hg k hk, sl_len hs (by omega) hw p3]; omega
    · rw [hg k h2, hg (k - 1) (by omega), show m + k = m + (k - 1) + 1 by omega]
      exact (gd_step hs (by omega) hw p3 (g2 _ (by omega) (by omega))).2
    · rw [hg 0 (by omega), Nat.add_zero]
      rcases Nat.lt_or_ge m t.length with r | r
      · exfalso
        have gg := g2 (t.length - 1) (by omega) (by omega)
        have st := (gd_step hs (by omega) hw p3 gg).2
        rw [show t.length - 1 + 1 = t.length by omega, p1] at st
        have hl2 : (sl W w x (t.length - 1)).length = t.length - 1 := sl_len hs (by omega) hw p3
        generalize sl W w x (t.length - 1) = z at *
        rcases hf with hf | ⟨f1, f2, f3⟩
        · omega
        · unfold nxt at st
          split at st
          · have c : t.drop (t.length - 1) = [f] := by rw [st, show (z ++ [f]).length - 1 = z.length by simp, List.drop_left]
            rename_i hc
            rcases hc with hc | ⟨hc, _⟩
            · exact f1 hc c
            · exact (f3 hc).2 c
          · have c : t.take 1 = [f] := by rw [st]; rfl
            rcases hs with h | h | h
            · rename_i hc; exact hc (.inl h)
            · exact f2 h c
            · exact (f3 h).1 c
      · rw [show m = t.length by omega]; exact p1
theorem first_right {W : List Nat} {w : Int} {f : Nat} (hw : w ≤ 40) (hl : (W.length : Int) = w) : ((strips W w f "right").getD 0 []).take 1 ≠ [f] := by
  have hs : Side "right" := .inr (.inl rfl)
  obtain ⟨m, hm, e, g1, g2⟩ := strips_run (f := f) hs hw hl
  rw [e, getD_run (by omega), Nat.add_zero]
  intro h
  have hsl : (sl W w "right" m).length = m := sl_len hs (by omega) hw hl
  have hm0 : 0 < m := by
    have := congrArg List.length h
    rw [List.length_take, hsl] at this; simp at this; omega
  obtain ⟨a, b, e1, e2, e3, _, r, _⟩ := pA_nat (x := "right") (n := m) hs (by omega) hw
  obtain ⟨a', b', e1', e2', e3', _, r', _⟩ := pA_nat (x := "right") (n := m - 1) hs (by omega) hw
  have := r rfl; have := r' rfl
  have gm := (gd_iff e1 e2 e3 hl).mp (g2 m (Nat.le_refl _) (by omega))
  have k : W[a]? = some f := by
    rw [sl_nat e1] at h
    have h2 := congrArg (fun z : List Nat => z[0]?) h
    simp only [List.getElem?_take, List.getElem?_drop] at h2
    simpa [hm0] using h2
  have : gd W w f "right" (m - 1) = true := by
    rw [gd_iff e1' e2' e3' hl, show a' = a + 1 by omega, show b' = 0 by omega]
    refine ⟨?_, List.drop_of_length_le (by omega)⟩
    rw [List.take_succ, gm.1, k, List.replicate_succ']; rfl
  rw [g1 (m - 1) (by omega)] at this; cases this
/-! ### fills counted -/
def fa (f : Nat) : List Nat → Nat
  | [] => 0
  | c :: t => if c = f then fa f t + 1 else 0
theorem fa_le (f : Nat) : ∀ t : List Nat, fa f t ≤ t.length
  | [] => Nat.le_refl _
  | c :: t => by have := fa_le f t; unfold fa; split <;> simp <;> omega
theorem fa_take {f : Nat} : ∀ {t : List Nat} {a : Nat}, a ≤ t.length → (t.take a = List.replicate a f ↔ a ≤ fa f t)
  | t, 0, _ => by simp
  | [], a + 1, h => by simp at h
  | c :: t, a + 1, h => by
    have ih := fa_take (f := f) (t := t) (a := a) (by simpa using h)
    rw [List.take_succ_cons, List.replicate_succ, List.cons.injEq, ih]
    show (c = f ∧ a ≤ fa f t) ↔ a + 1 ≤ (if c = f then fa f t + 1 else 0)
    by_cases hc : c = f
    · rw [if_pos hc]; simp [hc]
    · rw [if_neg hc]; simp [hc]
theorem fa_in {f : Nat} : ∀ {t : List Nat} {k : Nat}, k < fa f t → t.getD k 0 = f
  | [], k, h => by simp [fa] at h
  | c :: t, k, h => by
    unfold fa at h
    split at h
    · rename_i hc
      cases k with
      | zero => simpa using hc
      | succ k => simpa using fa_in (t := t) (k := k) (by omega)
    · omega
theorem fa_stop {f : Nat} : ∀ {t : List Nat}, fa f t < t.length → t.getD (fa f t) 0 ≠ f
  | [], h => by simp at h
  | c :: t, h => by
    unfold fa at h ⊢
    split at h
    · rename_i hc
      rw [if_pos hc]
      simpa using fa_stop (t := t) (by simpa using h)
    · rename_i hc
      rw [if_neg hc]; simpa using hc
/-- where a count stops is the number of fills ahead -/
theorem fa_eq {f : Nat} {t : List Nat} {k : Nat} (hk : k ≤ t.length) (h : ∀ j, j < k → t.getD j 0 = f) (hs : k < t.length → t.getD k 0 ≠ f) : fa f t = k := by
  have := fa_le f t
  rcases Nat.lt_trichotomy (fa f t) k with q | q | q
  · exact absurd (h _ q) (fa_stop (by omega))
  · exact q
  · exact absurd (fa_in q) (hs (by omega))
theorem gd_fa {t : List Nat} {w : Int} {f : Nat} {x : Str} {n : Nat} (hs : Side x) (h : (n : Int) ≤ w) (hw : w ≤ 40) (ht : (t.length : Int) = w) : gd t w f x n = decide (pA x n w ≤ fa f t ∧ w - n - pA x n w ≤ fa f t.reverse) := by
  obtain ⟨a, b, e1, e2, e3, _⟩ := pA_nat hs h hw
  rw [Bool.eq_iff_iff, gd_iff e1 e2 e3 ht, decide_eq_true_iff, fa_take (by omega)]
  have k : t.drop (a + n) = List.replicate b f ↔ b ≤ fa f t.reverse := by
    rw [← fa_take (t := t.reverse) (a := b) (by rw [List.length_reverse]; omega), List.take_reverse, show t.length - b = a + n by omega]
    constructor
    · intro h; rw [h, List.reverse_replicate]
    · intro h; have := congrArg List.reverse h; rw [List.reverse_reverse, List.reverse_replicate] at this; exact this
  rw [k]
  constructor <;> intro h <;> omega
theorem strips_fa {t : List Nat} {w : Int} {f : Nat} {x : Str} (hs : Side x) (hw : w ≤ 40) (ht : (t.length : Int) = w) : strips t w f x = ((List.range (w + 1).toNat).filter fun n : Nat => decide (pA x n w ≤ fa f t ∧ w - n - pA x n w ≤ fa f t.reverse)).map (sl t w x) := by
  unfold strips
  rw [if_neg (by omega)]
  congr 1
  refine List.filter_congr fun n hn => ?_
  have := List.mem_range.mp hn
  exact gd_fa hs (by omega) hw ht
theorem strips_right {t : List Nat} {w : Int} {f : Nat} (hw : w ≤ 40) (ht : (t.length : Int) = w) : strips t w f "right" = (List.range (fa f t + 1)).map fun k => t.drop (fa f t - k) := by
  have hs : Side "right" := .inr (.inl rfl)
  have hf := fa_le f t
  obtain ⟨m, hm, e, g1, g2⟩ := strips_run (f := f) hs hw ht
  have gg : ∀ n : Nat, n ≤ w.toNat → (gd t w f "right" n = true ↔ w.toNat - n ≤ fa f t) := fun n hn => by
    obtain ⟨a, b, e1, e2, e3, _, r, _⟩ := pA_nat (x := "right") (n := n) hs (by omega) hw
    have := r rfl
    rw [gd_fa hs (by omega) hw ht, decide_eq_true_iff, e1]
    constructor <;> intro h <;> omega
  have hmm : m = w.toNat - fa f t := by
    have h1 := (gg m hm).mp (g2 m (Nat.le_refl _) hm)
    rcases Nat.lt_or_ge (w.toNat - fa f t) m with q | q
    · have := g1 _ q
      rw [(gg _ (by omega)).mpr (by omega)] at this; cases this
    · omega
  rw [e, hmm, show w.toNat + 1 - (w.toNat - fa f t) = fa f t + 1 by omega]
  apply List.ext_getElem
  · simp
  · intro i h1 h2
    have hi : i < fa f t + 1 := by simpa using h2
    simp only [List.getElem_map, List.getElem_range', List.getElem_range, Nat.one_mul]
    obtain ⟨a, b, e1, e2, e3, _, r, _⟩ := pA_nat (x := "right") (n := w.toNat - fa f t + i) hs (by omega) hw
    have := r rfl
    rw [sl_nat e1, List.take_of_length_le (by omega), show a = fa f t - i by omega]
end L2

set_option Elab.async false
set_option linter.all false
set_option maxRecDepth 100000
set_option maxHeartbeats 400000
namespace L2
open PySem PySem.Spec PyProof.Rows
/-! ### a def that has defaults -/
structure FunD (K : PySem.W.Frag) (x qual : Str) (st : Stmt) (f : Addr) (fd : FuncData) : Prop where
  ex : ∃ (oc : Value) (od : Option Addr) (dV kV doc pm : Value) (an : Option Addr) (cdv ct : Value) (osl : Array (Option Value)),
    fd = PySem.W.fnOf x qual (defArgs st) (defBody st) (defScope st) dV kV doc pm an cdv ct ∧ K.lookup f = some ⟨oc, od, .func fd, osl⟩ ∧ PySem.W.codeIn K cdv qual = true
  kp : PySem.W.keepIn K (.ref f) = true
theorem Fun.d {K : PySem.W.Frag} {x qual : Str} {st : Stmt} {f : Addr} {fd : FuncData} (F : Fun K x qual st f fd) : FunD K x qual st f fd := by
  obtain ⟨oc, od, kV, doc, pm, an, cdv, ct, osl, h⟩ := F.ex
  exact ⟨⟨oc, od, .none, kV, doc, pm, an, cdv, ct, osl, h⟩, F.kp⟩
section
variable {P : Program} {w : World} {K : PySem.W.Frag} {mg : Str → Option Value} {base : Heap}
theorem FunD.ok {x qual : Str} {st : Stmt} {f : Addr} {fd : FuncData} {N ps : List Str} {k : Nat} {sp : Sp} (F : FunD K x qual st f fd) (S : FnScope N ps (defScope st)) (len : ∀ vs H Q E, sp vs H Q E → vs.length = ps.length)
    (hbody : ∀ (cdv : Value) (A : Around) (outer : List Env) (s : Shared) (H : Hp) (vs : List V) (Q : VK) (E : XK), Room k (A.deeper (envOfC qual (defScope st) s.heap.objs.size f cdv)) → sp vs H Q E →
      ∃ t, PSs (cxOf CX0 P w K mg base N qual (defScope st) f cdv A outer s H E).nox (defBody st) t ∧ t { nx := fun _ H' => Q .non H', rt := Q } (start N vs) H) : FnOk P w K mg base CX0 (k + 1) f fd ps sp := by
  obtain ⟨oc, od, dV, kV, doc, pm, an, cdv, ct, osl, rfl, lk, hcd⟩ := F.ex
  refine fn_of lk hcd S len fun A outer s H vs Q E hr hsp => ?_
  obtain ⟨t, h, q⟩ := hbody cdv A outer s H vs Q E hr hsp
  exact ⟨t, h.nox, q⟩
theorem FunD.okX {x qual : Str} {st : Stmt} {f : Addr} {fd : FuncData} {N ps : List Str} {k : Nat} {sp : Sp} (F : FunD K x qual st f fd) (S : FnScope N ps (defScope st)) (len : ∀ vs H Q E, sp vs H Q E → vs.length = ps.length)
    (hbody : ∀ (cdv : Value) (A : Around) (outer : List Env) (s : Shared) (H : Hp) (vs : List V) (Q : VK) (E : XK), Room k (A.deeper (envOfC qual (defScope st) s.heap.objs.size f cdv)) → sp vs H Q E →
      Takes (cxOf (CXE P w) P w K mg base N qual (defScope st) f cdv A outer s H E) E → Passes (CXE P w) (cxOf (CXE P w) P w K mg base N qual (defScope st) f cdv A outer s H E) E → ∃ t, PSs (cxOf (CXE P w) P w K mg base N qual (defScope st) f cdv A outer s H E) (defBody st) t ∧ t { nx := fun _ H' => Q .non H', rt := Q } (start N vs) H) : FnOk P w K mg base (CXE P w) (k + 1) f fd ps sp := by
  obtain ⟨oc, od, dV, kV, doc, pm, an, cdv, ct, osl, rfl, lk, hcd⟩ := F.ex
  exact fn_of lk hcd S len fun A outer s H vs Q E hr hsp => hbody cdv A outer s H vs Q E hr hsp (fun pins σ H s h' x C args I hm q => leaves_made I hm q) passes_cx
theorem FunD.binds {x qual : Str} {st : Stmt} {f : Addr} {fd : FuncData} {ps : List Str} (F : FunD K x qual st f fd)
    (h : ∀ (dV kV doc pm : Value) (an : Option Addr) (cdv ct : Value) (us : List Value), us.length = ps.length → bindArgs (PySem.W.fnOf x qual (defArgs st) (defBody st) (defScope st) dV kV doc pm an cdv ct) ⟨us, []⟩ = pure (ps.zip us)) : Binds K fd ps [] := by
  obtain ⟨oc, od, dV, kV, doc, pm, an, cdv, ct, osl, rfl, lk, hcd⟩ := F.ex
  exact .all (h dV kV doc pm an cdv ct)
theorem funD_mk {x qual : Str} {st : Stmt} {f : Addr} {oc : Value} {od an : Option Addr} {osl : Array (Option Value)} {dV kV doc pm cdv ct : Value} (l : K.lookup f = some ⟨oc, od, .func (PySem.W.fnOf x qual (defArgs st) (defBody st) (defScope st) dV kV doc pm an cdv ct), osl⟩)
    (c : PySem.W.codeIn K cdv qual = true) (k : PySem.W.keepIn K (.ref f) = true) : FunD K x qual st f (PySem.W.fnOf x qual (defArgs st) (defBody st) (defScope st) dV kV doc pm an cdv ct) := ⟨⟨oc, od, dV, kV, doc, pm, an, cdv, ct, osl, rfl, l, c⟩, k⟩
end
/-! ### methods, makings, a def of a class called by the class -/
def HasM (P : Program) (w : World) (K : PySem.W.Frag) (mg : Str → Option Value) (base : Heap) (CX : CXT) (C : Addr) (m : Str) (k : Nat) (ps : List Str) (sp : Sp) : Prop :=
  ∃ (f : Addr) (fd : FuncData), FnOk P w K mg base CX k f fd ps sp ∧ Meth K C m f ∧ Binds K fd ps []
def HasI (P : Program) (w : World) (K : PySem.W.Frag) (mg : Str → Option Value) (base : Heap) (CX : CXT) (C : Addr) (k : Nat) (ps : List Str) (sp : Sp) : Prop :=
  ∃ (f : Addr) (fd : FuncData), FnOk P w K mg base CX k f fd ps sp ∧ Mk K C f ∧ Binds K fd ps []
structure CMeth (K : PySem.W.Frag) (C : Addr) (m : Str) (f : Addr) : Prop where
  sp : PySem.W.specialIn K (.ref C) "__getattribute__" = some (some (.builtin "type.__getattribute__"))
  rd : PySem.W.readsIn K C (.type "type") = true
  fc : PySem.W.findCls K (.ref C) (.type "type") m = some (.val (.ref f))
  kp : PySem.W.keepIn K (.ref f) = true
def HasC (P : Program) (w : World) (K : PySem.W.Frag) (mg : Str → Option Value) (base : Heap) (CX : CXT) (C : Addr) (m : Str) (k : Nat) (ps : List Str) (sp : Sp) : Prop :=
  ∃ (f : Addr) (fd : FuncData), FnOk P w K mg base CX k f fd ps sp ∧ CMeth K C m f ∧ Binds K fd ps []
section
variable {X : Cx} {CX : CXT} {k n : Nat} {C : Addr} {ps : List Str} {sp : Sp} {E : XK} {x m : Str} {p np pos apos : Pos} {e o : Expr} {es : List Expr} {ta : TE} {t : TA}
theorem pe_methH {pl : Sem Bool} (F : HasM X.prog X.w X.K X.mg X.base CX C m k ps sp) (c : Cls X.K C) (hx : Passes CX X E) (hr : Room n X.A) (he : PE X o ta) (ha : PA X (e :: es) t) (hk : k ≤ n := by decide)
    (hst : starEach (e :: es) X.env = (false, eval e X.env) :: starEach es X.env := by rfl) (hpl : (backTo pos (starEach es X.env)).any (·.1) = false := by rfl)
    (ht : eval (.Call (.Attribute o m apos) (e :: es) [] pos) X.env = (do
      let ov ← eval o X.env
      standAt apos.atName
      let (f, first) ← holding [ov] (getMethod ov m pl)
      callWith pos f first (backTo pos (starEach (e :: es) X.env)) (backToKw pos (keywordEach [] X.env))) := by rfl) :
    PE X (.Call (.Attribute o m apos) (e :: es) [] pos) (tMeth C m sp [] E ta t) := by
  obtain ⟨f, fd, G, M, b⟩ := F
  exact pe_meth (pl := pl) he c M (G.mono hk) hr b .nil hx ha hst hpl ht
theorem pe_methH0 {pl : Sem Bool} (F : HasM X.prog X.w X.K X.mg X.base CX C m k ps sp) (c : Cls X.K C) (hx : Passes CX X E) (hr : Room n X.A) (he : PE X o ta) (hk : k ≤ n := by decide)
    (ht : eval (.Call (.Attribute o m apos) [] [] pos) X.env = (do
      let ov ← eval o X.env
      standAt apos.atName
      let (f, first) ← holding [ov] (getMethod ov m pl)
      callWith pos f first (backTo pos (starEach [] X.env)) (backToKw pos (keywordEach [] X.env))) := by rfl) :
    PE X (.Call (.Attribute o m apos) [] [] pos) (tMeth C m sp [] E ta tNil) := by
  obtain ⟨f, fd, G, M, b⟩ := F
  exact pe_meth0 (pl := pl) he c M (G.mono hk) hr b .nil hx ht
theorem pe_makeH (F : HasI X.prog X.w X.K X.mg X.base CX C k ps sp) (hx : Passes CX X E) (hr : Room n X.A) (hg : Gl X x) (hm : X.mg x = some (.ref C)) (ha : PA X (e :: es) t) (hk : k + 1 ≤ n := by decide)
    (hdb : (x == ("__debug__" : Str)) = false := by decide) (he : starEach (e :: es) X.env = (false, eval e X.env) :: starEach es X.env := by rfl) (hpl : (backTo pos (starEach es X.env)).any (·.1) = false := by rfl) :
    PE X (.Call (.Name x p) (e :: es) [] pos) (tMake C sp [] E t) := by
  obtain ⟨f, fd, G, M, b⟩ := F
  exact pe_make M G (hr.mono hk) hg hm b .nil hx ha hdb he hpl
/-- C.m(e, ..): the def itself -/
theorem pe_cmethH {pl : Sem Bool} (F : HasC X.prog X.w X.K X.mg X.base CX C m k ps sp) (hx : Passes CX X E) (hr : Room n X.A) (hg : Gl X x) (hm : X.mg x = some (.ref C)) (ha : PA X (e :: es) t) (hk : k ≤ n := by decide)
    (hdb : (x == ("__debug__" : Str)) = false := by decide) (hst : starEach (e :: es) X.env = (false, eval e X.env) :: starEach es X.env := by rfl) (hpl : (backTo pos (starEach es X.env)).any (·.1) = false := by rfl)
    (ht : eval (.Call (.Attribute (.Name x np) m apos) (e :: es) [] pos) X.env = (do
      let ov ← eval (.Name x np) X.env
      standAt apos.atName
      let (f, first) ← holding [ov] (getMethod ov m pl)
      callWith pos f first (backTo pos (starEach (e :: es) X.env)) (backToKw pos (keywordEach [] X.env))) := by rfl) :
    PE X (.Call (.Attribute (.Name x np) m apos) (e :: es) [] pos) (tCall sp [] E t) := by
  intro pins s σ H Q I h
  obtain ⟨f, fd, G, M, b⟩ := F
  refine PySem.W.methodCall_KW (pl := pl) (ld_glob I hg hm ?_ hdb) ht
  refine PySem.W.method_cls I.kIn M.sp (PySem.W.cls_value I.kIn M.rd M.fc rfl ?_)
  have I1 := I.tok (s.toks + 1)
  refine PySem.W.callWith_K (first := []) (h₀ := X.base) I.ok.mod.kin M.kp (thn (ha pos pins _ σ H _ I1 h) fun us s2 ⟨vs, H2, I2, r, q2⟩ => ⟨I2.kIn, ?_⟩) hst hpl
  exact run_fn (us := us) (vs := vs) (G.mono hk) hr b .nil hx I2 r q2
end
/-! ### how they are read -/
section
variable {σ : St} {H : Hp} {Q : VK} {D : Ends} {K : PySem.W.Frag} {C : Addr} {m f : Str} {sp : Sp} {E : XK} {ta tv : TE} {t : TA} {a : Addr}
def InsM (H : Hp) (a C : Addr) (m : Str) : Prop := ∃ dx fs, H a = some (.ins C dx fs) ∧ fs.lookup m = none
def FldAt (K : PySem.W.Frag) (H : Hp) (a : Addr) (f : Str) (v : V) : Prop := ∃ C dx fs, H a = some (.ins C dx fs) ∧ Cls K C ∧ NoAttr K C f ∧ fs.lookup f = some v
theorem InsM.same {H' : Hp} (g : Same H H') (h : InsM H a C m) : InsM H' a C m := by obtain ⟨dx, fs, e, l⟩ := h; exact ⟨dx, fs, g _ _ e, l⟩
theorem FldAt.same {H' : Hp} {v : V} (g : Same H H') (h : FldAt K H a f v) : FldAt K H' a f v := by obtain ⟨C, dx, fs, e, l⟩ := h; exact ⟨C, dx, fs, g _ _ e, l⟩
def kMeth (C : Addr) (m : Str) (sp : Sp) (dvs : List V) (E : XK) (t : TA) (σ : St) (Q : VK) : VK := fun x H1 => ∃ a dx fs, x = .ref a ∧ H1 a = some (.ins C dx fs) ∧ fs.lookup m = none ∧ t σ H1 fun vs H2 => sp (x :: (vs ++ dvs)) H2 Q E
theorem r_meth {dvs : List V} (h : ta σ H (kMeth C m sp dvs E t σ Q)) : tMeth C m sp dvs E ta t σ H Q := h
theorem r_kMeth {dvs : List V} (hi : InsM H a C m) (h : t σ H fun vs H2 => sp (.ref a :: (vs ++ dvs)) H2 Q E) : kMeth C m sp dvs E t σ Q (.ref a) H := by
  obtain ⟨dx, fs, e, l⟩ := hi
  exact ⟨a, dx, fs, rfl, e, l, h⟩
def kFld (K : PySem.W.Frag) (f : Str) (Q : VK) : VK := fun x H1 => ∃ a C dx fs v, x = .ref a ∧ H1 a = some (.ins C dx fs) ∧ Cls K C ∧ NoAttr K C f ∧ fs.lookup f = some v ∧ Q v H1
theorem r_fld (h : ta σ H (kFld K f Q)) : tFld K ta f σ H Q := h
theorem r_kFld {v : V} (hi : FldAt K H a f v) (q : Q v H) : kFld K f Q (.ref a) H := by
  obtain ⟨C, dx, fs, e, c, n, l⟩ := hi
  exact ⟨a, C, dx, fs, v, rfl, e, c, n, l, q⟩
def kSet (K : PySem.W.Frag) (f : Str) (y : V) (D : Ends) (σ : St) : VK := fun x H2 => ∃ a C dx fs, x = .ref a ∧ H2 a = some (.ins C dx fs) ∧ Cls K C ∧ NoAttr K C f ∧ fs.length < 1000 ∧ D.nx σ (upd H2 a (.ins C dx (putF f y fs)))
theorem r_sFld (h : tv σ H fun y H1 => ta σ H1 (kSet K f y D σ)) : sFld K ta tv f D σ H := h
theorem r_kSet {dx : Addr} {fs : List (Str × V)} {y : V} (e : H a = some (.ins C dx fs)) (c : Cls K C) (n : NoAttr K C f) (l : fs.length < 1000) (q : D.nx σ (upd H a (.ins C dx (putF f y fs)))) : kSet K f y D σ (.ref a) H := ⟨a, C, dx, fs, rfl, e, c, n, l, q⟩
def kMake (C : Addr) (sp : Sp) (dvs : List V) (E : XK) (Q : VK) : List V → Hp → Prop := fun vs H1 => ∀ x dx, H1 x = none → H1 dx = none → dx ≠ x →
  sp (.ref x :: (vs ++ dvs)) (upd (upd H1 dx (.own x)) x (.ins C dx [])) (fun v H2 => v = .non ∧ Q (.ref x) H2) E
theorem r_make {dvs : List V} (h : t σ H (kMake C sp dvs E Q)) : tMake C sp dvs E t σ H Q := h
theorem putF_nil (f : Str) (v : V) : putF f v [] = [(f, v)] := rfl
theorem putF_ne {f k : Str} {v x : V} {r : List (Str × V)} (h : k ≠ f) : putF f v ((k, x) :: r) = (k, x) :: putF f v r := by
  rw [show putF f v ((k, x) :: r) = (if k = f then (k, v) :: r else (k, x) :: putF f v r) from rfl, if_neg h]
theorem lk_eq {k : Str} {x : V} {r : List (Str × V)} : ((k, x) :: r).lookup k = some x := by simp [List.lookup]
theorem lk_ne {f k : Str} {x : V} {r : List (Str × V)} (h : f ≠ k) : ((k, x) :: r).lookup f = r.lookup f := by
  have : (f == k) = false := by simpa using h
  simp [List.lookup, this]
end
/-! ### try: a suite whose calls may raise; except by classes -/
def Wk (σc σ : St) : Prop := σc.length = σ.length ∧ ∀ (i : Nat) v, σc[i]? = some (some v) → σ[i]? = some (some v)
theorem Wk.nil : Wk [] [] := ⟨rfl, fun i v h => h⟩
theorem Wk.one {a b : St} {x : Option V} (h : Wk a b) : Wk (x :: a) (x :: b) := ⟨by rw [List.length_cons, List.length_cons, h.1], fun i v e => by
  cases i with
  | zero => exact e
  | succ i => exact h.2 i v e⟩
theorem Wk.any {a b : St} {x : Option V} (h : Wk a b) : Wk (none :: a) (x :: b) := ⟨by rw [List.length_cons, List.length_cons, h.1], fun i v e => by
  cases i with
  | zero => exact absurd (Option.some.inj e) (by simp)
  | succ i => exact h.2 i v e⟩
/-- the context within a try's suite -/
def Cx.tr (X : Cx) (pins : List (Addr × Obj)) (σc : St) (E : XK) : Cx := { X with pn := X.pn ++ pins, xe := XP X pins σc E }
section
variable {X : Cx} {pins pins0 : List (Addr × Obj)} {σ σc : St} {H : Hp} {s : Shared} {E : XK}
theorem Cx.Ok.tr (ok : X.Ok) : (X.tr pins σc E).Ok := ⟨ok.mod, ok.kind, ok.glob, ok.blt, ok.above, ok.inj, ok.has, ok.cab, ok.hd, ok.frames, ok.stk, ok.exf, ok.bs, ok.bsz, ok.noex, ok.exfs, ok.funs, ok.frf⟩
theorem Cx.Ok.untr (ok : (X.tr pins σc E).Ok) : X.Ok := ⟨ok.mod, ok.kind, ok.glob, ok.blt, ok.above, ok.inj, ok.has, ok.cab, ok.hd, ok.frames, ok.stk, ok.exf, ok.bs, ok.bsz, ok.noex, ok.exfs, ok.funs, ok.frf⟩
theorem Inv.tr (I : Inv X pins σ H s) : Inv (X.tr pins σc E) [] σ H s := ⟨I.ok.tr, I.os, I.bare, I.base, I.loc, I.cell, I.free, I.freeC, fun p hp => I.pin p (by simpa [Cx.tr] using hp), I.hok, I.len⟩
theorem Inv.untr (I : Inv (X.tr pins0 σc E) pins σ H s) : Inv X pins0 σ H s := ⟨I.ok.untr, I.os, I.bare, I.base, I.loc, I.cell, I.free, I.freeC, fun p hp => I.pin p (List.mem_append_left _ hp), I.hok, I.len⟩
theorem SP.untr {D : Ends} {f : Flow} {s' : Shared} (h : SP (X.tr pins0 σc E) pins D f s') : SP X pins0 D f s' := by
  cases f with
  | next => obtain ⟨σ', H', I, q⟩ := h; exact ⟨σ', H', I.untr, q⟩
  | brk => obtain ⟨σ', H', I, q⟩ := h; exact ⟨σ', H', I.untr, q⟩
  | cont => obtain ⟨σ', H', I, q⟩ := h; exact ⟨σ', H', I.untr, q⟩
  | ret u => obtain ⟨v, σ', H', I, r, q⟩ := h; exact ⟨v, σ', H', I.untr, r, q⟩
theorem SP.outExc {y : Addr} {D : Ends} {f : Flow} {s' : Shared} (ok : X.Ok) (h : SP (X.inExc y) pins D f s') : SP X pins D f s' := by
  cases f with
  | next => obtain ⟨σ', H', I, q⟩ := h; exact ⟨σ', H', I.outExc ok, q⟩
  | brk => obtain ⟨σ', H', I, q⟩ := h; exact ⟨σ', H', I.outExc ok, q⟩
  | cont => obtain ⟨σ', H', I, q⟩ := h; exact ⟨σ', H', I.outExc ok, q⟩
  | ret u => obtain ⟨v, σ', H', I, r, q⟩ := h; exact ⟨v, σ', H', I.outExc ok, r, q⟩
end
/-- except clauses, from the first -/
def PHs (X : Cx) (hs : List ExceptHandler) (th : Addr → TS) : Prop :=
  ∀ (pins : List (Addr × Obj)) (s : Shared) (σ : St) (H : Hp) (D : Ends) (y C : Addr) (B : Heap) (a0 : Value), Heap.FlyingW B (X.env :: X.outer) y (.ref C) a0 s.heap → Inv X pins σ H s →
    (∀ h', B.StaysIn h' → s.heap.UpToSlots h' → Inv X pins σ H { s with heap := h' }) → th C D σ H → wpAny (model X.prog X.w) X.A (handleBy (.ref y) X.env hs) (SP X pins D) X.xe s
def tHn : Addr → TS := fun _ _ _ _ => False
def tHc (K : PySem.W.Frag) (C' : Addr) (ts : TS) (th : Addr → TS) : Addr → TS := fun C D σ H => ∃ b, PySem.W.exmOne K (.ref C) (.ref C') = some b ∧ if b = true then ts D σ H else th C D σ H
section
variable {X : Cx} {cx : Str} {C' : Addr} {ts : TS} {th : Addr → TS} {np hpos pos : Pos} {b₀ : Stmt} {suite body : List Stmt} {rest hs : List ExceptHandler} {h₀ : ExceptHandler} {tb : St → XK → TS}
theorem ph_nil : PHs X [] tHn := fun _ _ _ _ _ _ _ _ _ _ _ _ h => h.elim
theorem isx {B : Heap} {l : List Env} {y C : Addr} {a0 : Value} {h : Heap} (fl : Heap.FlyingW B l y (.ref C) a0 h) : ExAt y C h := by
  obtain ⟨_, _, _, oe, vs, _, _, _, h1, ⟨h2, _⟩, h3, _⟩ := fl
  exact ⟨oe, h1, h2, vs, h3⟩
theorem ph_cons (hgc : Gl X cx) (hmc : X.mg cx = some (.ref C')) (hs : ∀ y, PSs (X.inExc y) (b₀ :: suite) ts) (hr : PHs X rest th) (hdc : (cx == ("__debug__" : Str)) = false := by decide) :
    PHs X (.ExceptHandler (some (.Name cx np)) none (b₀ :: suite) hpos :: rest) (tHc X.K C' ts th) := by
  intro pins s σ H D y C B a0 fly I clo h
  obtain ⟨b, exm, q⟩ := h
  refine wpAny_handleBy_cons (codeAny_handlers_test (ld_glob (I.inExc y) hgc hmc ?_ hdc)) (by intro q; cases q)
  refine (PySem.W.exm_one (M := model X.prog X.w) I.kIn (isx fly).ty exm).here ?_
  cases b with
  | false =>
    rw [if_neg Bool.false_ne_true] at q
    exact hr pins s σ H D y C B a0 fly I clo q
  | true =>
    rw [if_pos rfl] at q
    refine codeAny_handlers_suite (lands_againW fly fun h3 fly3 sm3 => ?_)
    have I3 := clo h3 fly3.1 sm3
    exact wpAny_mono (hs y pins _ σ H D (I3.inExc y) q) (fun f s6 sp6 => sp6.outExc I.ok) fun _ _ z => z.elim
def tTryG (tb : St → XK → TS) (th : Addr → TS) : TS := fun D σ H => ∃ σc, tb σc (fun cls _ H2 => ∃ C, cls = .ref C ∧ th C D σc H2) D σ H
theorem ps_tryG (hst : X.stack = X.env :: X.outer) (hfr : X.env.frame = some X.env.locals) (hb : ∀ pins σc E, PSs (X.tr pins σc E) body (tb σc E)) (hh : PHs X (h₀ :: hs) th) : PS X (.Try body (h₀ :: hs) [] [] pos) (tTryG tb th) := by
  intro pins s σ H D I h
  obtain ⟨σc, h⟩ := h
  refine wpAny_Try_except (wpAny_mono (hb pins σc _ [] s σ H D I.tr h) (fun f s1 q => ?_) fun er s' z => ?_)
  · cases f with
    | next => exact wpAny_execs_nil q.untr
    | ret u => exact q.untr
    | brk => exact q.untr
    | cont => exact q.untr
  · obtain ⟨H1, s1, I1, fl⟩ := z
    obtain ⟨y, C, a0, H2, B, rfl, hos, hbare, fly, clo, hy0, hy2, C0, z0, q⟩ := fl
    cases z0
    rw [hst] at fly
    refine wpAny_looks_onW (I.ok.frames.trans (congrArg some hst)) hfr fly fun h1 held sm1 => ?_
    refine wpAny_landsW held fun h2 fly2 sm2 => ?_
    have cl : ∀ h', B.StaysIn h' → h2.UpToSlots h' → Inv X pins σc H2 { s' with heap := h' } := fun h' st sm => by
      have c := clo h' st ((sm1.trans sm2).trans sm)
      exact I1.call' (s' := { s' with heap := h' }) hos c.1 c.2 hbare (fun b z => nomatch z)
    have c2 := clo h2 fly2.1 (sm1.trans sm2)
    have I2 : Inv X pins σc H2 { s' with heap := h2 } := I1.call' (s' := { s' with heap := h2 }) hos c2.1 c2.2 hbare (fun b z => nomatch z)
    exact hh pins { s' with heap := h2 } σc H2 D y C B a0 fly2 I2 cl q
theorem r_tryG {D : Ends} {σ : St} {H : Hp} (σc : St) (h : tb σc (fun cls _ H2 => ∃ C, cls = .ref C ∧ th C D σc H2) D σ H) : tTryG tb th D σ H := ⟨σc, h⟩
theorem r_Hc {D : Ends} {σ : St} {H : Hp} {K : PySem.W.Frag} {C : Addr} {b : Bool} (e : PySem.W.exmOne K (.ref C) (.ref C') = some b) (h : if b = true then ts D σ H else th C D σ H) : tHc K C' ts th C D σ H := ⟨b, e, h⟩
end
/-! ### calls within a try's suite -/
section
variable {X : Cx} {pins0 : List (Addr × Obj)} {σc : St} {k n : Nat} {C : Addr} {ps : List Str} {sp : Sp} {E : XK} {x m : Str} {p np pos apos : Pos} {e o : Expr} {es : List Expr} {ta : TE} {t : TA}
def tMethT (C : Addr) (m : Str) (sp : Sp) (E : XK) (σc : St) (ta : TE) (t : TA) : TE := fun σ H Q => ta σ H (kMeth C m (fun vs H Q E => Wk σc σ ∧ sp vs H Q E) [] E t σ Q)
def tCallT (sp : Sp) (E : XK) (σc : St) (t : TA) : TE := fun σ H Q => t σ H fun vs H1 => Wk σc σ ∧ sp (vs ++ []) H1 Q E
theorem run_fnT {pins : List (Addr × Obj)} {σ : St} {H : Hp} {s : Shared} {Q : VK} {us : List Value} {vs : List V} {f : Addr} {fd : FuncData} (F : FnOk X.prog X.w X.K X.mg X.base (CXE X.prog X.w) k f fd ps sp) (hr : Room k X.A) (hb : Binds X.K fd ps [])
    (I : Inv (X.tr pins0 σc E) pins σ H s) (r : Vals vs us) (wk : Wk σc σ) (h : sp (vs ++ []) H Q E) : wpAny (model X.prog X.w) X.A (call (.ref f) us) (EP (X.tr pins0 σc E) pins σ Q) (X.tr pins0 σc E).xe s := by
  have r2 : Vals (vs ++ []) (us ++ []) := r.append .nil
  have hl : (us ++ []).length = ps.length := by rw [← r2.length]; exact F.len _ _ _ _ h
  have e0 : Env0 X.prog X.w X.K X.mg X.base X.A X.stack s H := I.env0
  refine wpAny_call (codeAny_mono (F.run X.A X.stack s H ⟨us, []⟩ (us ++ []) (vs ++ []) Q E hr e0 (hb s us I.kIn hl) r2 h) fun r s' hq => ?_)
  cases r with
  | error e => exact ⟨H, s, I.untr.weak wk.1 wk.2, hq⟩
  | ok fl =>
    cases fl with
    | ret u => exact I.after hq
    | next => exact False.elim hq
    | brk => exact False.elim hq
    | cont => exact False.elim hq
theorem pe_methT {pl : Sem Bool} (F : HasM X.prog X.w X.K X.mg X.base (CXE X.prog X.w) C m k ps sp) (c : Cls X.K C) (hr : Room n X.A) (he : PE (X.tr pins0 σc E) o ta) (ha : PA (X.tr pins0 σc E) (e :: es) t) (hk : k ≤ n := by decide)
    (hst : starEach (e :: es) X.env = (false, eval e X.env) :: starEach es X.env := by rfl) (hpl : (backTo pos (starEach es X.env)).any (·.1) = false := by rfl)
    (ht : eval (.Call (.Attribute o m apos) (e :: es) [] pos) X.env = (do
      let ov ← eval o X.env
      standAt apos.atName
      let (f, first) ← holding [ov] (getMethod ov m pl)
      callWith pos f first (backTo pos (starEach (e :: es) X.env)) (backToKw pos (keywordEach [] X.env))) := by rfl) :
    PE (X.tr pins0 σc E) (.Call (.Attribute o m apos) (e :: es) [] pos) (tMethT C m sp E σc ta t) := by
  intro pins s σ H Q I h
  obtain ⟨f, fd, G, M, b⟩ := F
  refine PySem.W.methodCall_KW (pl := pl) (thn (he pins s σ H _ I h) fun u s1 ⟨x, H1, I1, rx, a, dx, fs, ex, ea, l, q⟩ => ?_) ht
  subst ex
  obtain rfl : u = Value.ref a := rx
  refine getmeth_ok I1 ea c M l ?_
  refine PySem.W.callWith_K (first := [.ref a]) (h₀ := X.base) I.ok.mod.kin M.kp (thn (ha pos pins s1 σ H1 _ I1 q) fun us s2 ⟨vs, H2, I2, r, q2⟩ => ⟨I2.kIn, ?_⟩) hst hpl
  exact run_fnT (us := .ref a :: us) (vs := .ref a :: vs) (G.mono hk) hr b I2 (.cons rfl r) q2.1 q2.2
theorem pe_callT (F : HasX X.prog X.w X.K X.mg X.base x k ps sp) (hr : Room n X.A) (hg : Gl X x) (ha : PA (X.tr pins0 σc E) (e :: es) t) (hk : k ≤ n := by decide)
    (hdb : (x == ("__debug__" : Str)) = false := by decide) (he : starEach (e :: es) X.env = (false, eval e X.env) :: starEach es X.env := by rfl) (hpl : (backTo pos (starEach es X.env)).any (·.1) = false := by rfl) :
    PE (X.tr pins0 σc E) (.Call (.Name x p) (e :: es) [] pos) (tCallT sp E σc t) := by
  intro pins s σ H Q I h
  obtain ⟨f, fd, G, hm, kp, b⟩ := F
  refine wpAny_Call_Name_kw (ld_glob I hg hm ?_ hdb)
  refine PySem.W.callWith_K (h₀ := X.base) I.ok.mod.kin kp (thn (ha pos pins s σ H _ I h) fun us s1 ⟨vs, H1, I1, r, q⟩ => ⟨I1.kIn, ?_⟩) he hpl
  exact run_fnT (G.mono hk) hr b I1 r q.1 q.2
variable {σ : St} {H : Hp} {Q : VK}
theorem r_methT (h : ta σ H (kMeth C m (fun vs H Q E => Wk σc σ ∧ sp vs H Q E) [] E t σ Q)) : tMethT C m sp E σc ta t σ H Q := h
theorem r_callT (h : t σ H fun vs H1 => Wk σc σ ∧ sp (vs ++ []) H1 Q E) : tCallT sp E σc t σ H Q := h
theorem r_wk {R : Prop} (h : Wk σc σ) (q : R) : Wk σc σ ∧ R := ⟨h, q⟩
end
end L2

set_option Elab.async false
set_option linter.all false
set_option maxRecDepth 100000
set_option maxHeartbeats 400000
namespace L2
open PySem PySem.Spec PyProof.Rows
/-! ### range(hi, lo, -1) -/
def ItrD (hi : Int) (n : Nat) : It := ⟨fun i _ => i < n, fun i H x H' => H' = H ∧ x = .int (hi - i), fun i _ => n ≤ i⟩
theorem turn_rangeD {P : Program} {w : World} {K : PySem.W.Frag} {tg : Expr} (it : Addr) (lo : Int) (n : Nat) : Turn P w K tg (ItrD lo n) [it] it (fun i h => IsRangeIter h it (lo + (i : Nat) * (-1)) ((n : Int) - (i : Nat)) (-1)) where
  mem := by simp
  obj := fun i h st b hb => by
    have e : b = it := by simpa using hb
    subst e
    exact ⟨_, st, fun v z => by
      have z' : Data.fields _ = Data.cell v := z
      cases z'⟩
  keep := fun i h h' st k => k it (by simp) _ st
  item := by
    intro X hP hw hK hc i pins s σ H E I hf st hg
    subst hP hw hK
    obtain ⟨f0, f1, f2, f3, f4, f5⟩ := hf it (by simp)
    have W := Walks.range (prog := X.prog) (w := X.w) (I.ok.hd hc) it lo (-1) n
    refine W.item i s _ _ hg st fun v h' tk hv st' kk => ?_
    obtain ⟨t, rfl⟩ := hv
    have I1 : Inv X pins σ H { s with heap := h', toks := tk } := I.turned (fun b o hb e => kk b o (by simpa using hb) e) f0 f1 f3 f4 f5
    refine ⟨_, rfl, go_of (s := { s with heap := h', toks := tk }) (n := "range_iterator") st' rfl rfl (by decide) ⟨.int (lo - i), H, I1, ⟨t, ?_⟩, ⟨rfl, rfl⟩, st', fun b hb => (hf b hb).1⟩⟩
    rw [show lo + (i : Int) * -1 = lo - i by omega]
  done := by
    intro X hP hw hK hc i pins s σ H E I hf st hg
    subst hP hw hK
    obtain ⟨f0, f1, f2, f3, f4, f5⟩ := hf it (by simp)
    exact wpAny_pyNext_range_end (I.ok.hd hc) st (by have : n ≤ i := hg; omega) fun h' eb => ⟨rfl, I.turned (t' := s.toks) (fun b o hb e => eb b o hb e) f0 f1 f3 f4 f5⟩
  self := fun _ _ _ _ _ st h => wpAny_pyIter_rangeiter st h
section
variable {X : Cx} {tg : Expr}
theorem rangeSize_D (a b : Int) : Builtin.Range.rangeSize a b (-1) = if b < a then a - b else 0 := by
  unfold Builtin.Range.rangeSize
  rw [if_neg (by decide), show (-(-1) : Int) = 1 by decide, Int.ediv_one]
  split <;> omega
theorem small_D {a b : Int} (ha : -(2 ^ 62) ≤ a) (ha' : a < 2 ^ 62) (hb : -(2 ^ 62) ≤ b) (hb' : b < 2 ^ 62) : Builtin.Range.small a b (-1) = true := by
  unfold Builtin.Range.small
  rw [rangeSize_D]
  simp only [Builtin.Range.rangeFitsLong, Bool.and_eq_true, Bool.or_eq_true, decide_eq_true_eq, beq_iff_eq, show ¬ ((-1 : Int) > 0) by decide, if_false]
  split <;> omega
theorem range_itD {pins : List (Addr × Obj)} {σ : St} {H : Hp} {s : Shared} {R : It → Hp → Prop} {E : Value → Shared → Prop} {lo hi : Int} {t u v : Tok} {tk : Nat} (I : Inv X pins σ H s) (h1 : -(2 ^ 62) ≤ lo) (h2 : lo < 2 ^ 62) (h3 : -(2 ^ 62) ≤ hi) (h4 : hi < 2 ^ 62)
    (q : R (ItrD lo (lo - hi).toNat) H) : wpAny (model X.prog X.w) X.A (pyIter (.ref s.heap.objs.size)) (PIE X pins σ tg R) E { s with heap := s.heap.push { cls := .type "range", data := .fields #[.int lo t, .int hi u, .int (-1) v] }, toks := tk } := by
  refine wpAny_pyIter_range (IsRange.new ..) (small_D h1 h2 h3 h4) ?_
  have I1 : Inv X pins σ H { s with heap := s.heap.push { cls := .type "range", data := .fields #[.int lo t, .int hi u, .int (-1) v] }, toks := tk } := I.kept fun b o e => Heap.get?_push_of_some _ e
  refine ⟨(s.heap.push { cls := .type "range", data := .fields #[.int lo t, .int hi u, .int (-1) v] }).objs.size, [(s.heap.push { cls := .type "range", data := .fields #[.int lo t, .int hi u, .int (-1) v] }).objs.size], _, _, H, rfl,
    I1.kept (t' := tk) fun b o e => Heap.get?_push_of_some _ e, turn_rangeD _ lo (lo - hi).toNat, ?_, fun b hb => ?_, q⟩
  · have e1 : lo + ((0 : Nat) : Int) * (-1) = lo := by simp
    have e2 : (((lo - hi).toNat : Nat) : Int) - ((0 : Nat) : Int) = Builtin.Range.rangeSize lo hi (-1) := by rw [rangeSize_D]; split <;> omega
    show IsRangeIter _ _ (lo + ((0 : Nat) : Int) * (-1)) ((((lo - hi).toNat : Nat) : Int) - ((0 : Nat) : Int)) (-1)
    rw [e1, e2]
    exact Heap.get?_push_size _ rfl
  · have e : b = (s.heap.push { cls := .type "range", data := .fields #[.int lo t, .int hi u, .int (-1) v] }).objs.size := by simpa using hb
    subst e
    exact I1.fpOk (Nat.le_refl _) (I1.hok.fresh (Nat.le_refl _))
def iRngD (ta : TA) : TI := fun σ H R => ta σ H fun vs H1 => ∃ i j : Int, vs = [.int i, .int j, .int (-1)] ∧ (-(2 ^ 62) ≤ i ∧ i < 2 ^ 62 ∧ -(2 ^ 62) ≤ j ∧ j < 2 ^ 62) ∧ R (ItrD i (i - j).toNat) H1
theorem pi_range3 {a b c : Expr} {ta : TA} {p pos : Pos} (hg : Gl X "range") (hm : X.mg "range" = none) (ha : PA X [a, b, c] ta) (hs : starEach [a, b, c] X.env = [(false, eval a X.env), (false, eval b X.env), (false, eval c X.env)] := by rfl) (hs2 : starEach [b, c] X.env = [(false, eval b X.env), (false, eval c X.env)] := by rfl) :
    PI X tg (.Call (.Name "range" p) [a, b, c] [] pos) (iRngD ta) := by
  intro pins s σ H R I h
  refine Call_ (ld_blt I hg hm boot_range (PyProof.Rows.callWith_type1 (thn (ha pos pins s σ H _ I h) fun us s1 ⟨vs, H1, I1, r1, q1⟩ => ?_) (by rw [hs, hs2]) (by rw [hs2]; rfl)))
  obtain ⟨i, j, e, ⟨q1, q2, q3, q4⟩, q⟩ := q1
  subst e
  cases r1 with
  | cons r rr =>
    cases rr with
    | cons r' rr =>
      cases rr with
      | cons r'' rr =>
        cases rr
        obtain ⟨t, rfl⟩ := r
        obtain ⟨t', rfl⟩ := r'
        obtain ⟨t'', rfl⟩ := r''
        exact call_range_3 (by decide) (range_itD I1 q1 q2 q3 q4 q) (Or.inl (PyProof.noPylong_small (by decide)))
def kForD (g : TG) (tb : TS) (D : Ends) (σ : St) (vs : List V) (H : Hp) : Prop := ∃ i j : Int, vs = [.int i, .int j, .int (-1)] ∧ (-(2 ^ 62) ≤ i ∧ i < 2 ^ 62 ∧ -(2 ^ 62) ≤ j ∧ j < 2 ^ 62) ∧ ∃ W : Nat → Nat → St → Hp → Prop, (∃ m, W 0 m σ H) ∧ ∀ k m σ H, W k m σ H →
  ((ItrD i (i - j).toNat).stop k H ∧ D.nx σ H) ∨ ((ItrD i (i - j).toNat).go k H ∧ ∃ N : St → Hp → Prop, (∀ σ' H', N σ' H' → ∃ m', m' < m ∧ W (k + 1) m' σ' H') ∧ ∀ x H', (ItrD i (i - j).toNat).yld k H x H' → g x σ H' fun σ2 H2 => tb { D with nx := N, ct := N, bk := D.nx } σ2 H2)
theorem r_forD {σ : St} {H : Hp} {D : Ends} {ta : TA} {g : TG} {tb : TS} (h : ta σ H (kForD g tb D σ)) : tFor (iRngD ta) g tb D σ H := h
theorem r_kForD {σ : St} {H : Hp} {D : Ends} {g : TG} {tb : TS} {i j : Int} (hb : -(2 ^ 62) ≤ i ∧ i < 2 ^ 62 ∧ -(2 ^ 62) ≤ j ∧ j < 2 ^ 62) (Pv : Nat → St → Hp → Prop) (h0 : Pv 0 σ H)
    (hs : ∀ k σ H, k < (i - j).toNat → Pv k σ H → g (.int (i - k)) σ H fun σ2 H2 => tb { D with nx := Pv (k + 1), ct := Pv (k + 1), bk := D.nx } σ2 H2) (hd : ∀ σ H, Pv (i - j).toNat σ H → D.nx σ H) : kForD g tb D σ [.int i, .int j, .int (-1)] H := by
  refine ⟨i, j, rfl, hb, fun k m σ H => m = (i - j).toNat - k ∧ k ≤ (i - j).toNat ∧ Pv k σ H, ⟨(i - j).toNat, by simp, Nat.zero_le _, h0⟩, ?_⟩
  rintro k m σ H ⟨rfl, hi, p⟩
  by_cases hlt : k < (i - j).toNat
  · refine .inr ⟨hlt, Pv (k + 1), fun σ' H' p' => ⟨(i - j).toNat - (k + 1), by omega, rfl, hlt, p'⟩, fun x H' y => ?_⟩
    obtain ⟨e, y⟩ := y
    subst e y
    exact hs k σ _ hlt p
  · have e : k = (i - j).toNat := by omega
    subst e
    exact .inl ⟨Nat.le_refl _, hd σ H p⟩
/-! ### text[lo:hi:step] -/
def picks (z : Str) (lo hi : Option Int) (st : Int) : List Nat := (Builtin.Str.strSliceIndices lo hi st z.length).filterMap ((Lt z)[·]?)
def rSl3 : V → Option Int → Option Int → Int → Hp → VK → Prop := fun x lo hi st H Q => ∃ z : Str, x = .str z ∧ st ≠ 0 ∧ z.length ≤ sizeLine ∧ (picks z lo hi st).length ≤ sizeLine ∧ ∀ y, (y = T (picks z lo hi st) ∨ (st = 1 ∧ y = z)) → Q (.str y) H
def tSl3 (r : V → Option Int → Option Int → Int → Hp → VK → Prop) (te : TE) (tl th : TO) (ts : TE) : TE := fun σ H Q => te σ H fun x H1 => tl σ H1 fun l H2 => th σ H2 fun u H3 => ts σ H3 fun s H4 => ∃ i, s = .int i ∧ r x l u i H4 Q
theorem part_of {v : Value} {o : Option Int} (p : IsPart v o) : ∃ l : Option (Int × Tok), v = partValue l ∧ l.map (·.1) = o := by
  cases p with
  | none => exact ⟨none, rfl, rfl⟩
  | int i t => exact ⟨some (i, t), rfl, rfl⟩
theorem pe_slice3 {e st : Expr} {lo hi : Option Expr} {te ts : TE} {tl th : TO} {p2 pos : Pos} (he : PE X e te) (hl : PO X lo tl) (hu : PO X hi th) (hs : PE X st ts) : PE X (.Subscript e (.Slice lo hi (some st) p2) pos) (tSl3 rSl3 te tl th ts) := by
  intro pins s σ H Q I h
  refine Subscript_ (thn (he pins s σ H _ I h) fun v s1 ⟨x, H1, I1, r1, q1⟩ => ?_)
  refine wpAny_Slice (thn (hl pins s1 σ H1 _ I1 q1) fun vl s2 ⟨l, H2, I2, pl, q2⟩ => thn (hu pins s2 σ H2 _ I2 q2) fun vu s3 ⟨u, H3, I3, pu, q3⟩ => ?_)
  refine thn (hs pins s3 σ H3 _ I3 q3) fun vs s4 ⟨y, H4, I4, r4, i, ey, z, ex, hst, hz, hzp, q4⟩ => ?_
  subst ey ex
  obtain ⟨t, rfl⟩ := r1
  obtain ⟨t4, rfl⟩ := r4
  obtain ⟨l', rfl, hl'⟩ := part_of pl
  obtain ⟨u', rfl, hu'⟩ := part_of pu
  have I5 : Inv X pins σ H4 { s4 with heap := s4.heap.push { cls := .type "slice", data := .fields #[partValue l', partValue u', .int i t4] } } := I4.kept (t' := s4.toks) fun b ob q => Heap.get?_push_of_some _ q
  show wpAny (model X.prog X.w) X.A (subscriptTail e (.Slice lo hi (some st) p2) (.str z t) (.ref s4.heap.objs.size)) (EP X pins σ Q) X.xe { s4 with heap := s4.heap.push { cls := .type "slice", data := .fields #[partValue l', partValue u', .int i t4] } }
  refine tail_any (ops := [.ref s4.heap.objs.size, .str z t]) (typeIs_str _ _ _) PySem.F.slot_str_getitem.lookup ?_ (by with_unfolding_all rfl)
  refine wpAny_getItem_str_slice (l := l') (u := u') (st := some (i, t4)) ⟨_, Heap.get?_push_size _ rfl, rfl, rfl⟩ (by simpa using hst) ?_
  have e : slicePicked z l' u' (some (i, t4)) = Builtin.Str.strSliceIndices l u i z.length := by unfold slicePicked; rw [hl', hu']; rfl
  unfold sliceMade
  rw [e]
  have ep : (⟨((Builtin.Str.strSliceIndices l u i z.length).filterMap (z.cps[·]?)).toArray⟩ : Str) = T (picks z l u i) := by
    unfold picks T; congr 3; funext k; simp [Lt]
  rw [ep]
  refine post_val_or_str ⟨?_, fun t' k => ⟨.str _, H4, I5.tok _, ⟨t', rfl⟩, q4 _ ?_⟩⟩
  · split
    · exact hz
    · exact hzp
  · split
    · rename_i hc
      rw [Bool.and_eq_true] at hc
      exact .inr ⟨by simpa using hc.1, rfl⟩
    · exact .inl rfl
theorem r_sl3 {σ : St} {H : Hp} {Q : VK} {r : V → Option Int → Option Int → Int → Hp → VK → Prop} {te ts : TE} {tl th : TO} (h : te σ H fun x H1 => tl σ H1 fun l H2 => th σ H2 fun u H3 => ts σ H3 fun s H4 => ∃ i, s = .int i ∧ r x l u i H4 Q) : tSl3 r te tl th ts σ H Q := h
theorem fm_all (l : List Nat) : ∀ ks : List Nat, (∀ k ∈ ks, k < l.length) → ks.filterMap (l[·]?) = ks.map fun k => l.getD k 0
  | [], _ => rfl
  | k :: ks, h => by
    have hk := h k (List.mem_cons_self ..)
    rw [List.filterMap_cons, List.getElem?_eq_getElem hk, List.map_cons, fm_all l ks fun x hx => h x (List.mem_cons_of_mem _ hx), List.getD_eq_getElem?_getD, List.getElem?_eq_getElem hk]
    rfl
theorem fm_rev (l : List Nat) : ((List.range l.length).map fun k => l.length - 1 - k).filterMap (l[·]?) = l.reverse := by
  apply List.ext_getElem?
  intro i
  have e : ((List.range l.length).map fun k => l.length - 1 - k).filterMap (l[·]?) = (List.range l.length).map fun k => l.getD (l.length - 1 - k) 0 := by
    rw [fm_all l, List.map_map]
    · rfl
    · intro k hk
      obtain ⟨m, hm, rfl⟩ := List.mem_map.mp hk
      have := List.mem_range.mp hm
      omega
  rw [e, List.getElem?_map]
  by_cases h : i < l.length
  · rw [List.getElem?_range h, List.getElem?_reverse h]
    simp [List.getD_eq_getElem?_getD, List.getElem?_eq_getElem (show l.length - 1 - i < l.length by omega)]
  · rw [List.getElem?_eq_none (by simpa using h), List.getElem?_eq_none (by simpa using h)]; rfl
theorem sr_rev (n : Nat) : sliceRange ((n : Int) - 1) (-1) (-1) = (List.range n).map fun k => n - 1 - k := by
  unfold sliceRange
  have h1 : ¬ ((-1 : Int) > 0) := by decide
  by_cases h : (n : Int) - 1 > -1
  · have e : ((n : Int) - 1 - -1 - -1 - 1) / (- -1) = (n : Int) := by
      rw [show (- -1 : Int) = 1 by decide, Int.ediv_one]
      omega
    simp only [h1, if_false, h, if_true, e, Int.toNat_natCast]
    apply List.map_congr_left
    intro k hk
    have := List.mem_range.mp hk
    omega
  · have e : n = 0 := by omega
    subst e
    simp
theorem picks_rev (a : List Nat) : picks (T a) none none (-1) = a.reverse := by
  unfold picks
  have e : Builtin.Str.strSliceIndices none none (-1) (T a).length = (List.range a.length).map fun k => a.length - 1 - k := by
    show sliceRange (if ((-1 : Int) > 0) then 0 else ((a.length : Int) - 1)) (if ((-1 : Int) > 0) then (a.length : Int) else -1) (-1) = _
    rw [if_neg (by decide), if_neg (by decide), sr_rev]
  rw [e, Lt_T, fm_rev]
theorem r_rev {H : Hp} {Q : VK} {a : List Nat} (hz : a.length ≤ 16777216) (q : Q (.str (T a.reverse)) H) : rSl3 (.str (T a)) none none (-1) H Q := by
  refine ⟨T a, rfl, by decide, hz, by rw [picks_rev, List.length_reverse]; exact hz, fun y hy => ?_⟩
  rcases hy with rfl | ⟨h, _⟩
  · rw [picks_rev]; exact q
  · exact absurd h (by decide)
theorem r_kCompRN {σ : St} {H : Hp} {Q : VK} {is : List Nat} {tt : TT} {te : TE} {j : Int} (h1 : -(2 ^ 62) ≤ j) (h2 : j < 2 ^ 62) (hz : j.toNat ≤ sizeLine) (Pv : Nat → List V → Hp → Prop) (h0 : Pv 0 [] H) (hl : ∀ i ys H, i ≤ j.toNat → Pv i ys H → ys.length ≤ i)
    (hs : ∀ i ys H, i < j.toNat → Pv i ys H → tt (some (.int (0 + i)) :: is.map fun j => (σ[j]?).getD none) H fun ok H2 => if ok = true then te (some (.int (0 + i)) :: is.map fun j => (σ[j]?).getD none) H2 fun y H3 => NxC j.toNat Pv i (ys ++ [y]) H3 else NxC j.toNat Pv i ys H2)
    (hd : ∀ ys H, Pv j.toNat ys H → ∀ p H', Same H H' → H p = none → H' p = some (.lst ys) → Q (.ref p) H') : kCompR is tt te σ Q [.int j] H := by
  refine ⟨j, rfl, h1, h2, fun i m ys H => m = j.toNat - i ∧ i ≤ j.toNat ∧ Pv i ys H, ⟨j.toNat, by simp, Nat.zero_le _, h0⟩, ?_⟩
  rintro i m ys H ⟨rfl, hi, p⟩
  have ly := hl i ys H hi p
  refine ⟨by omega, ?_⟩
  by_cases hlt : i < j.toNat
  · refine .inr ⟨hlt, by omega, fun x H' y => ?_⟩
    obtain ⟨e, y⟩ := y
    subst e y
    exact hs i ys _ hlt p
  · have e : i = j.toNat := by omega
    subst e
    exact .inl ⟨Nat.le_refl _, fun p' hp => hd ys H p p' _ (same_new hp _) hp upd_same⟩
end
end L2

set_option Elab.async false
set_option linter.all false
set_option maxRecDepth 100000
set_option maxHeartbeats 4000000
namespace Pw
open PySem L2
seal PySem.Sem.wp
def top (i : Nat) : Stmt := PySem.Challenge.pw_padwright_k34_whole_just_those.main.body.getD i (.Pass ⟨0, 0, 0, 0⟩)
abbrev s_pads_of : Stmt := top 1
theorem sc_pads_of : FnScope ["length", "width", "side", "lacks"] ["length", "width", "side"] (defScope s_pads_of) := ⟨rfl, rfl, rfl, by decide +kernel, rfl, by decide +kernel, by decide +kernel⟩
abbrev s_padded : Stmt := top 2
theorem sc_padded : FnScope ["text", "width", "fill", "side", "pads"] ["text", "width", "fill", "side"] (defScope s_padded) := ⟨rfl, rfl, rfl, by decide +kernel, rfl, by decide +kernel, by decide +kernel⟩
abbrev s_stripped : Stmt := top 4
theorem sc_stripped : FnScope ["text", "width", "fill", "side", "plains", "length", "ahead", "plain"] ["text", "width", "fill", "side"] (defScope s_stripped) := ⟨rfl, rfl, rfl, by decide +kernel, rfl, by decide +kernel, by decide +kernel⟩
abbrev s_stripped_inside : Stmt := top 5
theorem sc_stripped_inside : FnScope ["text", "lead", "width", "fill"] ["text", "lead", "width", "fill"] (defScope s_stripped_inside) := ⟨rfl, rfl, rfl, by decide +kernel, rfl, by decide +kernel, by decide +kernel⟩
abbrev s_law_cell_at : Stmt := top 7
theorem sc_law_cell_at : FnScope ["_law_script", "_law_k"] ["_law_script", "_law_k"] (defScope s_law_cell_at) := ⟨rfl, rfl, rfl, by decide +kernel, rfl, by decide +kernel, by decide +kernel⟩
abbrev s_law_pick : Stmt := top 8
theorem sc_law_pick : FnScope ["_law_cell", "_law_salt", "_law_many", "_law_one", "_law_two"] ["_law_cell", "_law_salt", "_law_many"] (defScope s_law_pick) := ⟨rfl, rfl, rfl, by decide +kernel, rfl, by decide +kernel, by decide +kernel⟩
abbrev s_law_sign : Stmt := top 9
theorem sc_law_sign : FnScope ["_law_number", "_law_signs"] ["_law_number"] (defScope s_law_sign) := ⟨rfl, rfl, rfl, by decide +kernel, rfl, by decide +kernel, by decide +kernel⟩
abbrev s_law_fill : Stmt := top 10
theorem sc_law_fill : FnScope ["_law_cell"] ["_law_cell"] (defScope s_law_fill) := ⟨rfl, rfl, rfl, by decide +kernel, rfl, by decide +kernel, by decide +kernel⟩
abbrev s_law_letters : Stmt := top 11
theorem sc_law_letters : FnScope ["_law_cell", "_law_turn", "_law_size_here", "_law_fill_here", "_law_word", "_law_kinds", "_law_same", "_law_k", "_law_salt", "_law_some"] ["_law_cell", "_law_turn", "_law_size_here", "_law_fill_here"] (defScope s_law_letters) := ⟨rfl, rfl, rfl, by decide +kernel, rfl, by decide +kernel, by decide +kernel⟩
abbrev s_law_size : Stmt := top 12
theorem sc_law_size : FnScope ["_law_cell", "_law_turn", "_law_most"] ["_law_cell", "_law_turn"] (defScope s_law_size) := ⟨rfl, rfl, rfl, by decide +kernel, rfl, by decide +kernel, by decide +kernel⟩
abbrev s_law_lacking : Stmt := top 13
theorem sc_law_lacking : FnScope ["_law_size_here", "_law_width"] ["_law_size_here", "_law_width"] (defScope s_law_lacking) := ⟨rfl, rfl, rfl, by decide +kernel, rfl, by decide +kernel, by decide +kernel⟩
abbrev s_law_all_texts : Stmt := top 14
theorem sc_law_all_texts : FnScope ["_law_found", "_law_text"] ["_law_found"] (defScope s_law_all_texts) := ⟨rfl, rfl, rfl, by decide +kernel, rfl, by decide +kernel, by decide +kernel⟩
abbrev s_law_fills_ahead : Stmt := top 15
theorem sc_law_fills_ahead : FnScope ["_law_text", "_law_fill_here", "_law_count"] ["_law_text", "_law_fill_here"] (defScope s_law_fills_ahead) := ⟨rfl, rfl, rfl, by decide +kernel, rfl, by decide +kernel, by decide +kernel⟩
abbrev s_law_just_those : Stmt := top 16
theorem sc_law_just_those : FnScope ["_law_text", "_law_width", "_law_fill_here", "_law_side", "_law_first", "_law_last", "_law_found", "_law_lacks", "_law_ahead"] ["_law_text", "_law_width", "_law_fill_here", "_law_side"] (defScope s_law_just_those) := ⟨rfl, rfl, rfl, by decide +kernel, rfl, by decide +kernel, by decide +kernel⟩
abbrev s_law_just_rests : Stmt := top 17
theorem sc_law_just_rests : FnScope ["_law_text", "_law_lead", "_law_width", "_law_fill_here", "_law_rest", "_law_fills"] ["_law_text", "_law_lead", "_law_width", "_law_fill_here"] (defScope s_law_just_rests) := ⟨rfl, rfl, rfl, by decide +kernel, rfl, by decide +kernel, by decide +kernel⟩
abbrev s_law : Stmt := top 18
theorem sc_law : FnScope ["_law_script", "_law_cell", "_law_fill_here", "_law_width", "_law_size_here", "_law_text", "_law_side", "_law_found", "_law_other", "_law_lead", "_law_due"] ["_law_script"] (defScope s_law) := ⟨rfl, rfl, rfl, by decide +kernel, rfl, by decide +kernel, by decide +kernel⟩
structure Blt (mg : Str → Option Value) : Prop where
  z_len : mg "len" = none
  z_range : mg "range" = none
  z_max : mg "max" = none
  z_isinstance : mg "isinstance" = none
  z_list : mg "list" = none
  z_str : mg "str" = none
  z_int : mg "int" = none
section
variable {P : Program} {w : World} {K : PySem.W.Frag} {mg : Str → Option Value} {base : Heap}
local macro_rules | `(tactic| walk_at "sd") => `(tactic| first | omega | (unfold CPos; omega) | (unfold CNn; omega) | (unfold CNz; omega) | (unfold CDivB GL; omega) | (unfold CDivS GL; omega) | (unfold CMulA CMul CMulB GL; omega))
local macro_rules | `(tactic| walk_at "hp") => `(tactic| first | assumption | (refine Same.at (by assumption) ?_; walk_at "hp") | exact upd_same)
local macro_rules | `(tactic| walk_at "sq") => `(tactic| first | assumption | (refine Same.seq (by assumption) ?_; walk_at "sq") | exact SqL.of (by walk_at "hp"))
local macro_rules | `(tactic| walk_at "sm") => `(tactic| first | assumption | exact Same.refl _ | (refine Same.trans ?_ (by assumption); walk_at "sm"))
local macro_rules | `(tactic| walk_at "rdc") => `(tactic| fail "no callee")
local macro_rules | `(tactic| walk_at "rd1") => `(tactic| first
  | (with_reducible refine r_seq ?_)
  | (with_reducible refine r_asg ?_)
  | (with_reducible refine r_ifS ?_)
  | (with_reducible refine r_ret ?_)
  | (with_reducible refine r_next ?_)
  | (with_reducible refine r_name ?_)
  | ((with_reducible refine' r_var ?e ?_); (case e => rfl))
  | (with_reducible refine r_c ?_)
  | (with_reducible refine r_op ?_)
  | (with_reducible refine r_I0 ?_)
  | ((with_reducible refine' r_I ?hc ?_); (case hc => walk_at "sd"))
  | (with_reducible refine r_test ?_)
  | (with_reducible refine r_tB ?_)
  | (with_reducible refine r_exbl ?_)
  | (with_reducible refine r_eqI ?_)
  | (with_reducible refine r_neI ?_)
  | (with_reducible refine iteT ?_)
  | (with_reducible refine iteF ?_)
  | (with_reducible refine i_nT ?_)
  | (with_reducible refine i_nF ?_)
  | ((with_reducible refine' i_dP ?hc ?_); (case hc => omega))
  | ((with_reducible refine' i_dN ?hc ?_); (case hc => omega))
  | ((with_reducible refine' i_ndP ?hc ?_); (case hc => omega))
  | ((with_reducible refine' i_ndN ?hc ?_); (case hc => omega))
  | (with_reducible refine i_d (fun hc => ?_) (fun hc => ?_))
  | (with_reducible refine i_nd (fun hc => ?_) (fun hc => ?_))
  | (with_reducible refine i_b (fun hc => ?_) (fun hc => ?_))
  | (with_reducible refine r_cons ?_)
  | (with_reducible refine r_nil ?_)
  | (with_reducible refine r_call ?_)
  | (with_reducible refine r_cb ?_)
  | (with_reducible refine r_un ?_)
  | (with_reducible refine r_U ?_)
  | (with_reducible refine r_and ?_)
  | (with_reducible refine r_or ?_)
  | (with_reducible refine r_not ?_)
  | (with_reducible refine r_andV ?_)
  | (with_reducible refine r_orV ?_)
  | (with_reducible refine r_notV ?_)
  | (with_reducible refine r_chain ?_)
  | (with_reducible refine r_tup ?_)
  | (with_reducible refine r_lst ?_)
  | ((with_reducible refine' r_kTup ?hz ?_); (case hz => exact small (by simp only [List.length_cons, List.length_nil]; decide)); intro p' H' g' e')
  | ((with_reducible refine' r_kLst ?hz ?_); (case hz => exact small (by simp only [List.length_cons, List.length_nil]; decide)); intro p' H' g' e')
  | (with_reducible refine r_isi_ii ?_)
  | (with_reducible refine r_isi_ib ?_)
  | (with_reducible refine r_isi_bb ?_)
  | (with_reducible refine r_isi_bi ?_)
  | ((with_reducible refine' r_isi_tt ?h ?_); (case h => walk_at "hp"))
  | ((with_reducible refine' r_ixT ?h ?e ?_); (case h => walk_at "hp"); (case e => rfl))
  | ((with_reducible refine' r_ix2 ?h ?hi (fun hi' => ?_) (fun hi' => ?_)); (case h => walk_at "hp"); (case hi => omega))
  | (with_reducible refine r_absA (fun k' hk' => ?_))
  | (with_reducible refine r_max2A (fun k' hk' => ?_))
  | (with_reducible refine r_min2A (fun k' hk' => ?_))
  | (with_reducible refine r_int1i ?_)
  | (with_reducible refine r_int1d (fun hc => ?_) (fun hc => ?_))
  | (with_reducible refine r_int1b ?_)
  | ((with_reducible refine' r_lenT2 ?h ?_); (case h => walk_at "hp"))
  | ((with_reducible refine' r_lenT ?h ?_); (case h => walk_at "hp"))
  | ((with_reducible refine' r_lenL ?h ?_); (case h => walk_at "sq"))
  | (with_reducible refine r_par ?_)
  | (with_reducible refine r_two ?_)
  | (with_reducible refine r_exN ?_)
  | (with_reducible refine r_forL ?_)
  | (with_reducible refine r_forR ?_)
  | ((with_reducible refine' r_gTup ?h ?n ?_); (case h => walk_at "hp"); (case n => rfl))
  | (with_reducible refine r_gCons ?_)
  | (with_reducible refine r_gNil ?_)
  | (with_reducible refine r_drop ?_)
  | (with_reducible refine r_retN ?_)
  | (with_reducible refine r_eqB ?_)
  | walk_at "rdc"
  | fail "rd stops")
local macro_rules | `(tactic| walk_at "rd") => `(tactic| repeat' walk_at "rd1")
local macro_rules | `(tactic| walk_at "st") => `(tactic| dsimp only [L2.start, List.map, List.length, List.replicate, List.append, HAppend.hAppend, Append.append, Nat.reduceAdd, Nat.reduceSub])

local macro_rules | `(tactic| walk_at "rdc") => `(tactic| first
  | (with_reducible refine r_slice ?_)
  | (with_reducible refine r_noPart ?_)
  | (with_reducible refine r_part ?_)
  | (with_reducible refine r_exint ?_)
  | (with_reducible refine r_compL ?_)
  | (with_reducible refine r_compR ?_)
  | (with_reducible refine r_noIf ?_)
  | (with_reducible refine r_ifE ?_)
  | ((with_reducible refine' r_slL ?h ?_); (case h => walk_at "sq"); intro p' H' g' e')
  | ((with_reducible refine' r_eqS (b := true) ?e ?_); (case e => exact decide_eq_true rfl))
  | ((with_reducible refine' r_eqS (b := false) ?e ?_); (case e => exact (by decide +kernel)))
  | fail "rd2 stops")

local macro_rules | `(tactic| walk_at "tl") => `(tactic| first | omega | (simp only [Lt_T, List.length_append, List.length_replicate, List.length_cons, List.length_nil, List.length_take, List.length_drop]; omega) | (with_unfolding_all decide))
local macro_rules | `(tactic| walk_at "rdc") => `(tactic| first
  | ((with_reducible refine' rTT_add ?hz ?_); (case hz => walk_at "tl"))
  | ((with_reducible refine' rTS_add ?hz ?_); (case hz => walk_at "tl"))
  | ((with_reducible refine' rST_add ?hz ?_); (case hz => walk_at "tl"))
  | ((with_reducible refine' rT_add ?hz ?_); (case hz => walk_at "tl"))
  | ((with_reducible refine' rTT_len ?hz ?_); (case hz => walk_at "tl"))
  | ((with_reducible refine' rT_len ?hz ?_); (case hz => walk_at "tl"))
  | ((with_reducible refine' rT_ixK (z := Str.ofString _) 94 ?hn ?hz ?h0 ?h1 ?_); (case hn => decide +kernel); (case hz => decide); (case h0 => omega); (case h1 => omega); intro c' hc')
  | ((with_reducible refine' rT_ixK (z := Str.ofString _) 16 ?hn ?hz ?h0 ?h1 ?_); (case hn => decide +kernel); (case hz => decide); (case h0 => omega); (case h1 => omega); intro c' hc')
  | ((with_reducible refine' rT_ixK (z := Str.ofString _) 8 ?hn ?hz ?h0 ?h1 ?_); (case hn => decide +kernel); (case hz => decide); (case h0 => omega); (case h1 => omega); intro c' hc')
  | ((with_reducible refine' rT_ixK (z := Str.ofString _) 32 ?hn ?hz ?h0 ?h1 ?_); (case hn => decide +kernel); (case hz => decide); (case h0 => omega); (case h1 => omega); intro c' hc')
  | ((with_reducible refine' rT_ixK (z := Str.ofString _) 13 ?hn ?hz ?h0 ?h1 ?_); (case hn => decide +kernel); (case hz => decide); (case h0 => omega); (case h1 => omega); intro c' hc')
  | ((with_reducible refine' rT_ixK (z := Str.ofString _) 17 ?hn ?hz ?h0 ?h1 ?_); (case hn => decide +kernel); (case hz => decide); (case h0 => omega); (case h1 => omega); intro c' hc')
  | ((with_reducible refine' rT_ixK (z := Str.ofString _) 5 ?hn ?hz ?h0 ?h1 ?_); (case hn => decide +kernel); (case hz => decide); (case h0 => omega); (case h1 => omega); intro c' hc')
  | ((with_reducible refine' rTT_ix ?hz ?h0 ?h1 ?_); (case hz => walk_at "tl"); (case h0 => omega); (case h1 => walk_at "tl"))
  | ((with_reducible refine' rT_ix ?hz ?h0 ?h1 ?_); (case hz => walk_at "tl"); (case h0 => omega); (case h1 => walk_at "tl"))
  | ((with_reducible refine' rTT_ixL ?hz ?h1 ?_); (case hz => walk_at "tl"); (case h1 => walk_at "tl"))
  | ((with_reducible refine' rTT_sl0 ?hz ?h0 ?_); (case hz => walk_at "tl"); (case h0 => omega))
  | ((with_reducible refine' rTT_sli ?hz ?h0 ?_); (case hz => walk_at "tl"); (case h0 => omega))
  | ((with_reducible refine' rTT_slij ?hz ?h0 ?h1 ?_); (case hz => walk_at "tl"); (case h0 => omega); (case h1 => omega))
  | ((with_reducible refine' rT_mul1 ?h0 ?h1 ?_); (case h0 => omega); (case h1 => omega))
  | (with_reducible refine r_isi_ss ?_)
  | ((with_reducible refine' r_eqS (b := true) ?e ?_); (case e => exact decide_eq_true rfl))
  | ((with_reducible refine' r_eqS (b := false) ?e ?_); (case e => exact (by decide +kernel)))
  | ((with_reducible refine' r_neS (b := true) ?e ?_); (case e => exact decide_eq_true rfl))
  | ((with_reducible refine' r_neS (b := false) ?e ?_); (case e => exact (by decide +kernel)))
  | (with_reducible refine rTT_eq ?_)
  | (with_reducible refine rTT_ne ?_)
  | (with_reducible refine r_eqT2 ?_)
  | (with_reducible refine r_neT2 ?_)
  | (with_reducible refine r_bmL ?_)
  | (with_reducible refine r_tyS ?_)
  | (with_reducible refine r_findT ?_)
  | fail "rd4 stops")

local macro_rules | `(tactic| walk_at "rdc") => `(tactic| first
  | (with_reducible refine r_bm0 ?_)
  | ((with_reducible refine' r_ixTs ?h ?h0 ?h1 ?_); (case h => walk_at "sq"); (case h0 => omega); (case h1 => omega))
  | fail "rd6 stops")

local macro_rules | `(tactic| walk_at "rdc") => `(tactic| first
  | ((with_reducible refine' r_isi_ll ?h ?_); (case h => walk_at "hp"))
  | ((with_reducible refine' r_eqLs ?h1 ?h2 ?_); (case h1 => walk_at "sq"); (case h2 => walk_at "sq"))
  | ((with_reducible refine' r_neLs ?h1 ?h2 ?_); (case h1 => walk_at "sq"); (case h2 => walk_at "sq"))
  | ((with_reducible refine' r_inTs ?h ?_); (case h => walk_at "sq"))
  | ((with_reducible refine' r_ninTs ?h ?_); (case h => walk_at "sq"))
  | ((with_reducible refine' r_ixTsL ?h ?h0 ?_); (case h => walk_at "sq"); (case h0 => omega))
  | ((with_reducible refine' rTT_slL ?hz ?_); (case hz => walk_at "tl"))
  | ((with_reducible refine' r_listOf ?h ?_); (case h => walk_at "sq"); intro l' H' g' n' e')
  | (with_reducible refine r_startT ?_)
  | ((with_reducible refine' r_tyLL ?h ?_); (case h => walk_at "sq"))
  | (with_reducible refine r_bm0 ?_)
  | fail "rd12 stops")

local macro_rules | `(tactic| walk_at "rdc") => `(tactic| first
  | (with_reducible refine r_sl3 ?_)
  | ((with_reducible refine' r_rev ?h ?_); (case h => walk_at "tl"))
  | (with_reducible refine r_forD ?_)
  | fail "rd13 stops")

def sp_law_cell_at (K : PySem.W.Frag) : Sp := fun vs H Q _ => ∃ (a : Addr) (ns : List Int) (k : Int), vs = [.ref a, .int k] ∧ SqL K H a (ns.map V.int) ∧ 0 ≤ k ∧ ∀ v : Int, Q (.int v) H
theorem c_cell {K : PySem.W.Frag} {a : Addr} {ns : List Int} {k : Int} {H : Hp} {Q : VK} {E : XK} (h1 : SqL K H a (ns.map V.int)) (h2 : 0 ≤ k) (q : ∀ v : Int, Q (.int v) H) : sp_law_cell_at K ([.ref a, .int k] ++ []) H Q E := ⟨a, ns, k, rfl, h1, h2, q⟩
def sp_law_pick (K : PySem.W.Frag) : Sp := fun vs H Q _ => ∃ c t m : Int, vs = [.int c, .int t, .int m] ∧ 0 ≤ t ∧ 0 < m ∧ ∀ v : Int, 0 ≤ v → v < m → Q (.int v) H
theorem c_pick {K : PySem.W.Frag} {c t m : Int} {H : Hp} {Q : VK} {E : XK} (h1 : 0 ≤ t) (h2 : 0 < m) (q : ∀ v : Int, 0 ≤ v → v < m → Q (.int v) H) : sp_law_pick K ([.int c, .int t, .int m] ++ []) H Q E := ⟨c, t, m, rfl, h1, h2, q⟩
def sp_law_sign (K : PySem.W.Frag) : Sp := fun vs H Q _ => ∃ n : Int, vs = [.int n] ∧ ∀ c : Nat, Q (.str (T [c])) H
theorem c_sign {K : PySem.W.Frag} {n : Int} {H : Hp} {Q : VK} {E : XK} (q : ∀ c : Nat, Q (.str (T [c])) H) : sp_law_sign K ([.int n] ++ []) H Q E := ⟨n, rfl, q⟩
def sp_law_fill (K : PySem.W.Frag) : Sp := fun vs H Q _ => ∃ n : Int, vs = [.int n] ∧ ∀ (c : Nat) (H' : Hp), Same H H' → Q (.str (T [c])) H'
theorem c_fill {K : PySem.W.Frag} {n : Int} {H : Hp} {Q : VK} {E : XK} (q : ∀ (c : Nat) (H' : Hp), Same H H' → Q (.str (T [c])) H') : sp_law_fill K ([.int n] ++ []) H Q E := ⟨n, rfl, q⟩
def sp_law_letters (K : PySem.W.Frag) : Sp := fun vs H Q _ => ∃ (n t z : Int) (f : Nat), vs = [.int n, .int t, .int z, .str (T [f])] ∧ 0 ≤ t ∧ 0 ≤ z ∧ z ≤ 400 ∧ ∀ (l : List Nat) (H' : Hp), Same H H' → l.length ≤ 400 → Q (.str (T l)) H'
theorem c_letters {K : PySem.W.Frag} {n t z : Int} {f : Nat} {H : Hp} {Q : VK} {E : XK} (h1 : 0 ≤ t) (h2 : 0 ≤ z) (h3 : z ≤ 400) (q : ∀ (l : List Nat) (H' : Hp), Same H H' → l.length ≤ 400 → Q (.str (T l)) H') : sp_law_letters K ([.int n, .int t, .int z, .str (T [f])] ++ []) H Q E := ⟨n, t, z, f, rfl, h1, h2, h3, q⟩
def sp_law_size (K : PySem.W.Frag) : Sp := fun vs H Q _ => ∃ n t : Int, vs = [.int n, .int t] ∧ 0 ≤ t ∧ ∀ (v : Int) (H' : Hp), Same H H' → 0 ≤ v → v ≤ 400 → Q (.int v) H'
theorem c_size {K : PySem.W.Frag} {n t : Int} {H : Hp} {Q : VK} {E : XK} (h1 : 0 ≤ t) (q : ∀ (v : Int) (H' : Hp), Same H H' → 0 ≤ v → v ≤ 400 → Q (.int v) H') : sp_law_size K ([.int n, .int t] ++ []) H Q E := ⟨n, t, rfl, h1, q⟩
def sp_law_lacking (K : PySem.W.Frag) : Sp := fun vs H Q _ => ∃ n w : Int, vs = [.int n, .int w] ∧ Q (.int (lk n w)) H
theorem c_lacking {K : PySem.W.Frag} {n w : Int} {H : Hp} {Q : VK} {E : XK} (q : Q (.int (lk n w)) H) : sp_law_lacking K ([.int n, .int w] ++ []) H Q E := ⟨n, w, rfl, q⟩
def sp_pads_of (K : PySem.W.Frag) : Sp := fun vs H Q _ => ∃ (n w : Int) (x : Str), vs = [.int n, .int w, .str x] ∧ Side x ∧ 0 ≤ n ∧ w ≤ 40 ∧ ∀ p H', Same H H' → H' p = some (.tup [.int (pA x n w), .int (pB x n w)]) → Q (.ref p) H'
theorem c_pads_of {K : PySem.W.Frag} {n w : Int} {x : Str} {H : Hp} {Q : VK} {E : XK} (h1 : Side x) (h2 : 0 ≤ n) (h3 : w ≤ 40) (q : ∀ p H', Same H H' → H' p = some (.tup [.int (pA x n w), .int (pB x n w)]) → Q (.ref p) H') : sp_pads_of K ([.int n, .int w, .str x] ++ []) H Q E := ⟨n, w, x, rfl, h1, h2, h3, q⟩
def sp_padded (K : PySem.W.Frag) : Sp := fun vs H Q _ => ∃ (t : List Nat) (w : Int) (f : Nat) (x : Str), vs = [.str (T t), .int w, .str (T [f]), .str x] ∧ Side x ∧ t.length ≤ 400 ∧ w ≤ 40 ∧ ∀ H', Same H H' → Q (.str (T (pad t w f x))) H'
theorem c_padded {K : PySem.W.Frag} {t : List Nat} {w : Int} {f : Nat} {x : Str} {H : Hp} {Q : VK} {E : XK} (h1 : Side x) (h2 : t.length ≤ 400) (h3 : w ≤ 40) (q : ∀ H', Same H H' → Q (.str (T (pad t w f x))) H') : sp_padded K ([.str (T t), .int w, .str (T [f]), .str x] ++ []) H Q E := ⟨t, w, f, x, rfl, h1, h2, h3, q⟩
local macro_rules | `(tactic| walk_at "rdc") => `(tactic| ((with_reducible refine' c_pick ?h1 ?h2 ?_); (case h1 => omega); (case h2 => omega); intro v' h0' h1'))
local macro_rules | `(tactic| walk_at "rdc") => `(tactic| ((with_reducible refine' c_cell ?h1 ?h2 ?_); (case h1 => walk_at "sq"); (case h2 => omega); intro v'))
local macro_rules | `(tactic| walk_at "rdc") => `(tactic| (with_reducible refine c_lacking ?_))
local macro_rules | `(tactic| walk_at "rdc") => `(tactic| ((with_reducible refine c_sign ?_); intro c'))
local macro_rules | `(tactic| walk_at "rdc") => `(tactic| ((with_reducible refine c_fill ?_); intro c' H' g'))
local macro_rules | `(tactic| walk_at "rdc") => `(tactic| ((with_reducible refine' c_size ?h1 ?_); (case h1 => omega); intro v' H' g' h0' h1'))
local macro_rules | `(tactic| walk_at "rdc") => `(tactic| ((with_reducible refine' c_letters ?h1 ?h2 ?h3 ?_); (case h1 => omega); (case h2 => omega); (case h3 => omega); intro l' H' g' h0'))
local macro_rules | `(tactic| walk_at "rdc") => `(tactic| ((with_reducible refine' c_pads_of ?h1 ?h2 ?h3 ?_); (case h1 => first | assumption | exact .inl rfl | exact .inr (.inl rfl) | exact .inr (.inr rfl)); (case h2 => omega); (case h3 => omega); intro p' H' g' e'))
local macro_rules | `(tactic| walk_at "rdc") => `(tactic| ((with_reducible refine' c_padded ?h1 ?h2 ?h3 ?_); (case h1 => first | assumption | exact .inl rfl | exact .inr (.inl rfl) | exact .inr (.inr rfl)); (case h2 => walk_at "tl"); (case h3 => omega); intro H' g'))

def sp_stripped (K : PySem.W.Frag) : Sp := fun vs H Q _ => ∃ (t : List Nat) (w : Int) (f : Nat) (x : Str), vs = [.str (T t), .int w, .str (T [f]), .str x] ∧ Side x ∧ t.length ≤ 400 ∧ w ≤ 40 ∧ -1000 ≤ w ∧ ∀ p H', Same H H' → H p = none → H' p = some (.lst (tsV (strips t w f x))) → Q (.ref p) H'
theorem c_stripped {K : PySem.W.Frag} {t : List Nat} {w : Int} {f : Nat} {x : Str} {H : Hp} {Q : VK} {E : XK} (h1 : Side x) (h2 : t.length ≤ 400) (h3 : w ≤ 40) (h4 : -1000 ≤ w) (q : ∀ p H', Same H H' → H p = none → H' p = some (.lst (tsV (strips t w f x))) → Q (.ref p) H') : sp_stripped K ([.str (T t), .int w, .str (T [f]), .str x] ++ []) H Q E := ⟨t, w, f, x, rfl, h1, h2, h3, h4, q⟩
local macro_rules | `(tactic| walk_at "rdc") => `(tactic| ((with_reducible refine' c_stripped ?h1 ?h2 ?h3 ?h4 ?_); (case h1 => first | assumption | exact .inl rfl | exact .inr (.inl rfl) | exact .inr (.inr rfl)); (case h2 => walk_at "tl"); (case h3 => omega); (case h4 => omega); intro p' H' g' n' e'))
def sp_law_all_texts (K : PySem.W.Frag) : Sp := fun vs H Q _ => ∃ (p : Addr) (ts : List (List Nat)), vs = [.ref p] ∧ H p = some (.lst (tsV ts)) ∧ Q (.bl true) H
theorem c_all_texts {K : PySem.W.Frag} {p : Addr} {ts : List (List Nat)} {H : Hp} {Q : VK} {E : XK} (h1 : H p = some (.lst (tsV ts))) (q : Q (.bl true) H) : sp_law_all_texts K ([.ref p] ++ []) H Q E := ⟨p, ts, rfl, h1, q⟩
local macro_rules | `(tactic| walk_at "rdc") => `(tactic| ((with_reducible refine' c_all_texts ?h1 ?_); (case h1 => walk_at "hp")))

def sp_padded_inside (K : PySem.W.Frag) : Sp := fun vs H Q _ => ∃ (l t : List Nat) (w : Int) (f : Nat), vs = [.str (T l), .str (T t), .int w, .str (T [f])] ∧ l.length ≤ 400 ∧ t.length ≤ 400 ∧ w ≤ 40 ∧ ∀ H', Same H H' → Q (.str (T (l ++ pad t (w - l.length) f "right"))) H'
theorem c_padded_inside {K : PySem.W.Frag} {l t : List Nat} {w : Int} {f : Nat} {H : Hp} {Q : VK} {E : XK} (h1 : l.length ≤ 400) (h2 : t.length ≤ 400) (h3 : w ≤ 40) (q : ∀ H', Same H H' → Q (.str (T (l ++ pad t (w - l.length) f "right"))) H') : sp_padded_inside K ([.str (T l), .str (T t), .int w, .str (T [f])] ++ []) H Q E := ⟨l, t, w, f, rfl, h1, h2, h3, q⟩
local macro_rules | `(tactic| walk_at "rdc") => `(tactic| ((with_reducible refine' c_padded_inside ?h1 ?h2 ?h3 ?_); (case h1 => walk_at "tl"); (case h2 => walk_at "tl"); (case h3 => omega); intro H' g'))
def stin (t l : List Nat) (w : Int) (f : Nat) : List (List Nat) := if t.take l.length = l then strips (t.drop l.length) (w - l.length) f "right" else []
def sp_stripped_inside (K : PySem.W.Frag) : Sp := fun vs H Q _ => ∃ (t l : List Nat) (w : Int) (f : Nat), vs = [.str (T t), .str (T l), .int w, .str (T [f])] ∧ t.length ≤ 1000 ∧ l.length ≤ 400 ∧ t.length - l.length ≤ 400 ∧ w ≤ 40 ∧ 0 ≤ w ∧ ∀ p H', Same H H' → H p = none → H' p = some (.lst (tsV (stin t l w f))) → Q (.ref p) H'
theorem c_stripped_inside {K : PySem.W.Frag} {t l : List Nat} {w : Int} {f : Nat} {H : Hp} {Q : VK} {E : XK} (h1 : t.length ≤ 1000) (h2 : l.length ≤ 400) (h5 : t.length - l.length ≤ 400) (h3 : w ≤ 40) (h4 : 0 ≤ w) (q : ∀ p H', Same H H' → H p = none → H' p = some (.lst (tsV (stin t l w f))) → Q (.ref p) H') : sp_stripped_inside K ([.str (T t), .str (T l), .int w, .str (T [f])] ++ []) H Q E := ⟨t, l, w, f, rfl, h1, h2, h5, h3, h4, q⟩
local macro_rules | `(tactic| walk_at "rdc") => `(tactic| ((with_reducible refine' c_stripped_inside ?h1 ?h2 ?h5 ?h3 ?h4 ?_); (case h1 => walk_at "tl"); (case h2 => walk_at "tl"); (case h5 => walk_at "tl"); (case h3 => omega); (case h4 => omega); intro p' H' g' n' e'))
theorem nxt_right {t : List Nat} {w : Int} {f : Nat} : nxt t w f "right" = [f] ++ t := by
  unfold nxt
  rw [if_neg]
  rintro (h | ⟨h, _⟩)
  · exact absurd h (by decide +kernel)
  · exact absurd h (by decide +kernel)
theorem strips_le {t : List Nat} {w : Int} {f : Nat} {x : Str} (hw : w ≤ 40) : (strips t w f x).length ≤ 400 := by
  rcases Int.lt_or_le w t.length with z | z
  · rw [strips_long z, List.length_singleton]; decide
  · unfold strips; rw [if_neg (by omega), List.length_map]
    exact Nat.le_trans (List.length_filter_le _ _) (by rw [List.length_range]; omega)
structure InF (l t : List Nat) (w : Int) (f : Nat) : Prop where
  lo : 0 ≤ lk (l.length + t.length) w
  hi : lk (l.length + t.length) w ≤ 40
  eq : l ++ pad t (w - l.length) f "right" = l ++ List.replicate (lk (l.length + t.length) w).toNat f ++ t
  len : (pad t (w - l.length) f "right").length ≤ 400
  st : stin (l ++ pad t (w - l.length) f "right") l w f = strips (pad t (w - l.length) f "right") (w - l.length) f "right"
  fn : Fnd t (w - l.length) f "right" (pad t (w - l.length) f "right") (strips (pad t (w - l.length) f "right") (w - l.length) f "right")
  fst : ((strips (pad t (w - l.length) f "right") (w - l.length) f "right").getD 0 []).take 1 ≠ [f] ∨ w < (l ++ pad t (w - l.length) f "right").length
theorem inF {l t : List Nat} {w : Int} {f : Nat} (hl : l.length ≤ 400) (ht : t.length ≤ 400) (h0 : 0 ≤ w) (hw : w ≤ 40) : InF l t w f := by
  have hs : Side "right" := .inr (.inl rfl)
  have b := lk_bd (l.length + t.length) w (by omega) hw
  have b2 := lk_bd t.length (w - l.length) (by omega) (by omega)
  have pb := pads_bd (x := "right") (n := t.length) (w := w - l.length) hs (by omega) (by omega)
  have pl := pad_len (f := f) pb
  obtain ⟨c1, c2, c3, c4, c5, c6⟩ := pb
  have c7 := c5 rfl
  refine ⟨b.1, b.2.1, ?_, by omega, ?_, fnd hs (by omega), ?_⟩
  · unfold pad
    rw [c7, show pA "right" t.length (w - l.length) = lk (l.length + t.length) w by unfold lk at c3 b2 ⊢; split <;> split at c3 <;> omega]
    simp
  · unfold stin
    rw [if_pos (List.take_left' rfl), List.drop_left' rfl]
  · rcases Int.lt_or_le (w - l.length) (pad t (w - l.length) f "right").length with z | z
    · right; rw [List.length_append]; omega
    · left; exact first_right (by omega) (by omega)

theorem look3 (a b c : V) : lookV ((["left", "right", "middle"] : List Str).zip [a, b, c]) "left" = some a ∧ lookV ((["left", "right", "middle"] : List Str).zip [a, b, c]) "right" = some b ∧ lookV ((["left", "right", "middle"] : List Str).zip [a, b, c]) "middle" = some c := ⟨rfl, rfl, rfl⟩
def sp_law_fills_ahead (K : PySem.W.Frag) : Sp := fun vs H Q _ => ∃ (t : List Nat) (f : Nat), vs = [.str (T t), .str (T [f])] ∧ t.length ≤ 400 ∧ Q (.int (fa f t)) H
theorem c_fills_ahead {K : PySem.W.Frag} {t : List Nat} {f : Nat} {H : Hp} {Q : VK} {E : XK} (h : t.length ≤ 400) (q : Q (.int (fa f t)) H) : sp_law_fills_ahead K ([.str (T t), .str (T [f])] ++ []) H Q E := ⟨t, f, rfl, h, q⟩
local macro_rules | `(tactic| walk_at "rdc") => `(tactic| ((with_reducible refine' c_fills_ahead ?h ?_); (case h => walk_at "tlr")))
local macro_rules | `(tactic| walk_at "tlr") => `(tactic| first | omega | (simp only [List.length_reverse, List.length_drop]; omega))
def sp_law_just_those (K : PySem.W.Frag) : Sp := fun vs H Q _ => ∃ (t : List Nat) (w : Int) (f : Nat) (x : Str), vs = [.str (T t), .int w, .str (T [f]), .str x] ∧ Side x ∧ t.length ≤ 400 ∧ 0 ≤ w ∧ w ≤ 40 ∧ ∀ p H', Same H H' → H' p = some (.lst (tsV (strips t w f x))) → Q (.ref p) H'
theorem c_just_those {K : PySem.W.Frag} {t : List Nat} {w : Int} {f : Nat} {x : Str} {H : Hp} {Q : VK} {E : XK} (h1 : Side x) (h2 : t.length ≤ 400) (h3 : 0 ≤ w) (h4 : w ≤ 40) (q : ∀ p H', Same H H' → H' p = some (.lst (tsV (strips t w f x))) → Q (.ref p) H') : sp_law_just_those K ([.str (T t), .int w, .str (T [f]), .str x] ++ []) H Q E := ⟨t, w, f, x, rfl, h1, h2, h3, h4, q⟩
local macro_rules | `(tactic| walk_at "rdc") => `(tactic| ((with_reducible refine' c_just_those ?h1 ?h2 ?h3 ?h4 ?_); (case h1 => assumption); (case h2 => omega); (case h3 => omega); (case h4 => omega); intro p' H' g' e'))
def sp_law_just_rests (K : PySem.W.Frag) : Sp := fun vs H Q _ => ∃ (t l : List Nat) (w : Int) (f : Nat), vs = [.str (T t), .str (T l), .int w, .str (T [f])] ∧ t.length ≤ 400 ∧ l.length ≤ 400 ∧ 0 ≤ w ∧ w ≤ 40 ∧ ∀ p H', Same H H' → H p = none → H' p = some (.lst (tsV (stin t l w f))) → Q (.ref p) H'
theorem c_just_rests {K : PySem.W.Frag} {t l : List Nat} {w : Int} {f : Nat} {H : Hp} {Q : VK} {E : XK} (h1 : t.length ≤ 400) (h2 : l.length ≤ 400) (h3 : 0 ≤ w) (h4 : w ≤ 40) (q : ∀ p H', Same H H' → H p = none → H' p = some (.lst (tsV (stin t l w f))) → Q (.ref p) H') : sp_law_just_rests K ([.str (T t), .str (T l), .int w, .str (T [f])] ++ []) H Q E := ⟨t, l, w, f, rfl, h1, h2, h3, h4, q⟩
local macro_rules | `(tactic| walk_at "rdc") => `(tactic| ((with_reducible refine' c_just_rests ?h1 ?h2 ?h3 ?h4 ?_); (case h1 => omega); (case h2 => omega); (case h3 => omega); (case h4 => omega); intro p' H' g' n' e'))
def sp_law (K : PySem.W.Frag) : Sp := fun vs H Q _ => ∃ (a : Addr) (ns : List Int), vs = [.ref a] ∧ SqL K H a (ns.map V.int) ∧ ns.length ≤ 63 ∧ ∀ H', Q (.bl true) H'
theorem ok_law_cell_at {f : Addr} {fd : FuncData} (F : Fun K "_law_cell_at" "_law_cell_at" s_law_cell_at f fd) (B : Blt mg) : FnOk P w K mg base CX0 1 f fd ["_law_script", "_law_k"] (sp_law_cell_at K) := by
  refine F.ok sc_law_cell_at (fun vs H Q E h => ?_) (fun cdv A outer s H vs Q E hr h => ?_)
  · obtain ⟨a, ns, k, rfl, hS, hk, q⟩ := h
    rfl
  obtain ⟨a, ns, k, rfl, hS, hk, q⟩ := h
  refine ⟨_, pss_cons (ps_if (pt_cmpR op_lt (pv 1) (pe_callBH call_lenN B.z_len rfl bo_len (pa_cons (pv 0) (pa_nil))) (nomark _)) (pss_one (ps_ret (pe_ix ix_list (pv 0) (pv 1) (fun _ _ => rfl)))) (pss_nil))
    (pss_one (ps_ret (pe_int))), ?_⟩
  walk_at "st"
  walk_at "rd"
  · rename_i hc
    rw [List.length_map] at hc
    exact r_ixAll hS hk (by rw [List.length_map]; omega) fun x hx => by
      obtain ⟨v, _, rfl⟩ := List.mem_map.mp (List.mem_of_getElem? hx)
      exact q v
  · exact q 0
theorem ok_law_pick {f : Addr} {fd : FuncData} (F : Fun K "_law_pick" "_law_pick" s_law_pick f fd) (B : Blt mg) : FnOk P w K mg base CX0 1 f fd ["_law_cell", "_law_salt", "_law_many"] (sp_law_pick K) := by
  refine F.ok sc_law_pick (fun vs H Q E h => ?_) (fun cdv A outer s H vs Q E hr h => ?_)
  · obtain ⟨c, t, m, rfl, ht, hm, q⟩ := h
    rfl
  obtain ⟨c, t, m, rfl, ht, hm, q⟩ := h
  refine ⟨_, pss_cons (ps_if (PW.pt (pw_and (pt_cmpR op_gt (pv 0) (pe_powK (k := 1000000000000000000) (by unfold CPow; decide) (by decide +kernel)) (nomark _)) (pw_and1 (pt_cmpR op_gt (pe_op op_shrP (pv 0) (pe_op op_mulA (pe_int) (pv 1))) (pe_int) (nomark _))))) (pss_one (ps_ret (pe_op op_modP (pe_op op_modP (pe_op op_shrP (pv 0) (pe_op op_mulA (pe_int) (pv 1))) (pe_int)) (pv 2)))) (pss_nil))
    (pss_cons (ps_set (i := 3) sc_law_pick.nd rfl (Or.inl rfl) (pe_op op_modP (pe_op op_add (pe_op op_add (pe_op op_modP (pv 0) (pe_int)) (pe_int)) (pe_op op_mulA (pe_int) (pv 1))) (pe_int)))
    (pss_cons (ps_set (i := 3) sc_law_pick.nd rfl (Or.inl rfl) (pe_op op_modP (pe_op op_mulA (pv 3) (pv 3)) (pe_int)))
    (pss_cons (ps_set (i := 4) sc_law_pick.nd rfl (Or.inl rfl) (pe_op op_modP (pe_op op_mulA (pe_op op_add (pv 3) (pe_int)) (pe_op op_add (pe_op op_add (pe_op op_fdivB (pv 3) (pe_int)) (pe_int)) (pv 1))) (pe_int)))
    (pss_one (ps_ret (pe_op op_modP (pe_op op_fdivB (pv 4) (pe_int)) (pv 2))))))), ?_⟩
  walk_at "st"
  walk_at "rd"
  all_goals exact q _ (Int.emod_nonneg _ (by omega)) (Int.emod_lt_of_pos _ hm)
theorem ok_law_sign {f : Addr} {fd : FuncData} (F : Fun K "_law_sign" "_law_sign" s_law_sign f fd) (B : Blt mg) : FnOk P w K mg base CX0 1 f fd ["_law_number"] (sp_law_sign K) := by
  refine F.ok sc_law_sign (fun vs H Q E h => ?_) (fun cdv A outer s H vs Q E hr h => ?_)
  · obtain ⟨n, rfl, q⟩ := h
    rfl
  obtain ⟨n, rfl, q⟩ := h
  refine ⟨_, pss_cons (ps_set (i := 1) sc_law_sign.nd rfl (Or.inl rfl) (pe_str))
    (pss_one (ps_ret (pe_ix ix_str (pv 1) (pe_op op_modP (pv 0) (pe_int)) (fun _ _ => rfl)))), ?_⟩
  walk_at "st"
  walk_at "rd"
  exact q _
theorem ok_law_fill {f : Addr} {fd : FuncData} (F : Fun K "_law_fill" "_law_fill" s_law_fill f fd) (B : Blt mg) (C_law_sign : Has P w K mg base "_law_sign" 1 ["_law_number"] (sp_law_sign K)) : FnOk P w K mg base CX0 2 f fd ["_law_cell"] (sp_law_fill K) := by
  refine F.ok sc_law_fill (fun vs H Q E h => ?_) (fun cdv A outer s H vs Q E hr h => ?_)
  · obtain ⟨n, rfl, q⟩ := h
    rfl
  obtain ⟨n, rfl, q⟩ := h
  refine ⟨_, pss_one (ps_ret (pe_ix ix_list (pe_lst (pa_cons (pe_str) (pa_cons (pe_str) (pa_cons (pe_str) (pa_cons (pe_str) (pa_cons (pe_str) (pa_cons (pe_callH C_law_sign hr rfl (pa_cons (pe_op op_fdivB (pv 0) (pe_int)) (pa_nil))) (pa_nil)))))))) (pe_op op_modP (pv 0) (pe_int)) (fun _ _ => rfl))), ?_⟩
  walk_at "st"
  walk_at "rd"
  rename_i c' p' H' g' e'
  refine r_ixAll (SqL.of e') (by omega) (by show _ < (6 : Int); omega) fun x hx => ?_
  have hm := List.mem_of_getElem? hx
  simp only [List.mem_cons, List.not_mem_nil, or_false] at hm
  rcases hm with rfl | rfl | rfl | rfl | rfl | rfl <;> exact q _ _ g'
theorem ok_law_size {f : Addr} {fd : FuncData} (F : Fun K "_law_size" "_law_size" s_law_size f fd) (B : Blt mg) (C_law_pick : Has P w K mg base "_law_pick" 1 ["_law_cell", "_law_salt", "_law_many"] (sp_law_pick K)) : FnOk P w K mg base CX0 2 f fd ["_law_cell", "_law_turn"] (sp_law_size K) := by
  refine F.ok sc_law_size (fun vs H Q E h => ?_) (fun cdv A outer s H vs Q E hr h => ?_)
  · obtain ⟨n, t, rfl, h0, q⟩ := h
    rfl
  obtain ⟨n, t, rfl, h0, q⟩ := h
  refine ⟨_, pss_cons (ps_set (i := 2) sc_law_size.nd rfl (Or.inl rfl) (pe_ix ix_list (pe_lst (pa_cons (pe_int) (pa_cons (pe_int) (pa_cons (pe_int) (pa_nil))))) (pe_op op_fdivB (pe_callH C_law_pick hr rfl (pa_cons (pv 0) (pa_cons (pe_op op_add (pv 1) (pe_int)) (pa_cons (pe_int) (pa_nil))))) (pe_int)) (fun _ _ => rfl)))
    (pss_one (ps_ret (pe_callH C_law_pick hr rfl (pa_cons (pv 0) (pa_cons (pv 1) (pa_cons (pv 2) (pa_nil))))))), ?_⟩
  walk_at "st"
  walk_at "rd"
  rename_i p' H' g' e' v' h0' h1'
  refine r_ixAll (SqL.of e') (by omega) (by show _ < (3 : Int); omega) fun x hx => ?_
  have hm := List.mem_of_getElem? hx
  simp only [List.mem_cons, List.not_mem_nil, or_false] at hm
  rcases hm with rfl | rfl | rfl
  all_goals walk_at "rd"
  all_goals exact q _ _ g' (by omega) (by omega)
theorem ok_law_lacking {f : Addr} {fd : FuncData} (F : Fun K "_law_lacking" "_law_lacking" s_law_lacking f fd) (B : Blt mg) : FnOk P w K mg base CX0 1 f fd ["_law_size_here", "_law_width"] (sp_law_lacking K) := by
  refine F.ok sc_law_lacking (fun vs H Q E h => ?_) (fun cdv A outer s H vs Q E hr h => ?_)
  · obtain ⟨n, w, rfl, q⟩ := h
    rfl
  obtain ⟨n, w, rfl, q⟩ := h
  refine ⟨_, pss_cons (ps_if (pt_cmpR op_lt (pv 0) (pv 1) (nomark _)) (pss_one (ps_ret (pe_op op_sub (pv 1) (pv 0)))) (pss_nil))
    (pss_one (ps_ret (pe_int))), ?_⟩
  walk_at "st"
  unfold lk at q
  walk_at "rd"
  · rename_i hc; rw [if_pos hc] at q; exact q
  · rename_i hc; rw [if_neg hc] at q; exact q
theorem ok_law_letters {f : Addr} {fd : FuncData} (F : Fun K "_law_letters" "_law_letters" s_law_letters f fd) (B : Blt mg) (C_law_sign : Has P w K mg base "_law_sign" 1 ["_law_number"] (sp_law_sign K)) (C_law_pick : Has P w K mg base "_law_pick" 1 ["_law_cell", "_law_salt", "_law_many"] (sp_law_pick K)) : FnOk P w K mg base CX0 2 f fd ["_law_cell", "_law_turn", "_law_size_here", "_law_fill_here"] (sp_law_letters K) := by
  refine F.ok sc_law_letters (fun vs H Q E h => ?_) (fun cdv A outer s H vs Q E hr h => ?_)
  · obtain ⟨n, t, z, f, rfl, h0, h1, h2, q⟩ := h
    rfl
  obtain ⟨n, t, z, f, rfl, h0, h1, h2, q⟩ := h
  refine ⟨_, pss_cons (ps_set (i := 4) sc_law_letters.nd rfl (Or.inl rfl) (pe_str))
    (pss_cons (ps_set (i := 5) sc_law_letters.nd rfl (Or.inl rfl) (pe_ix ix_list (pe_lst (pa_cons (pe_int) (pa_cons (pe_int) (pa_cons (pe_int) (pa_nil))))) (pe_callH C_law_pick hr rfl (pa_cons (pv 0) (pa_cons (pe_op op_add (pe_int) (pv 1)) (pa_cons (pe_int) (pa_nil))))) (fun _ _ => rfl)))
    (pss_cons (ps_set (i := 6) sc_law_letters.nd rfl (Or.inl rfl) (pe_callH C_law_sign hr rfl (pa_cons (pe_callH C_law_pick hr rfl (pa_cons (pv 0) (pa_cons (pe_op op_add (pe_int) (pv 1)) (pa_cons (pe_int) (pa_nil))))) (pa_nil))))
    (pss_cons (ps_for PassesOwn.never rfl (pi_range1 rfl B.z_range (pa_cons (pv 2) (pa_nil))) (pg_name (i := 7) sc_law_letters.nd rfl (Or.inl rfl)) (pss_cons (ps_set (i := 8) sc_law_letters.nd rfl (Or.inl rfl) (pe_op op_add (pe_op op_mulA (pe_int) (pv 1)) (pe_op op_mulA (pe_int) (pv 7))))
    (pss_cons (ps_set (i := 9) sc_law_letters.nd rfl (Or.inl rfl) (pe_lst (pa_cons (pv 3) (pa_cons (pv 3) (pa_cons (pe_str) (pa_cons (pv 6) (pa_cons (pe_callH C_law_sign hr rfl (pa_cons (pe_callH C_law_pick hr rfl (pa_cons (pv 0) (pa_cons (pe_op op_add (pv 8) (pe_int)) (pa_cons (pe_int) (pa_nil))))) (pa_nil))) (pa_nil))))))))
    (pss_one (ps_set (i := 4) sc_law_letters.nd rfl (Or.inl rfl) (pe_op op_addS (pv 4) (pe_ix ix_list (pv 9) (pe_callH C_law_pick hr rfl (pa_cons (pv 0) (pa_cons (pv 8) (pa_cons (pv 5) (pa_nil))))) (fun _ _ => rfl))))))))
    (pss_one (ps_ret (pv 4)))))), ?_⟩
  walk_at "st"
  walk_at "rd"
  rename_i p' H' g' e' v' h0' h1'
  refine r_ixAll (SqL.of e') (by omega) (by show _ < (3 : Int); omega) fun x hx => ?_
  have hm := List.mem_of_getElem? hx
  simp only [List.mem_cons, List.not_mem_nil, or_false] at hm
  have hx : ∃ j : Int, x = .int j ∧ 0 < j ∧ j ≤ 5 := by
    rcases hm with rfl | rfl | rfl <;> exact ⟨_, rfl, by decide, by decide⟩
  obtain ⟨j, rfl, hj0, hj1⟩ := hx
  walk_at "rd"
  rename_i c0
  refine r_kForR (by omega) (by omega) (fun i σ H2 => Same H H2 ∧ ∃ (l : List Nat) (r1 r2 r3 : Option V), l.length = i ∧ σ = [some (.int n), some (.int t), some (.int z), some (.str (T [f])), some (.str (T l)), some (.int j), some (.str (T [c0])), r1, r2, r3]) ⟨g', [], none, none, none, rfl, rfl⟩ ?_ ?_
  · rintro i σ H2 hi ⟨gg, l, r1, r2, r3, hl, rfl⟩
    walk_at "rd"
    rename_i g2 e2 v2 h02 h12
    refine r_ixAll (SqL.of e2) (by omega) (by show _ < (5 : Int); omega) fun x hx => ?_
    have hm := List.mem_of_getElem? hx
    simp only [List.mem_cons, List.not_mem_nil, or_false] at hm
    have hx : ∃ c : Nat, x = .str (T [c]) := by
      rcases hm with rfl | rfl | rfl | rfl | rfl <;> exact ⟨_, rfl⟩
    obtain ⟨c, rfl⟩ := hx
    walk_at "rd"
    exact ⟨gg.trans g2, l ++ [c], _, _, _, by rw [List.length_append, hl]; rfl, rfl⟩
  · rintro σ H2 ⟨gg, l, r1, r2, r3, hl, rfl⟩
    walk_at "rd"
    exact q _ _ gg (by omega)
theorem ok_pads_of {f : Addr} {fd : FuncData} (F : Fun K "pads_of" "pads_of" s_pads_of f fd) (B : Blt mg) : FnOk P w K mg base CX0 1 f fd ["length", "width", "side"] (sp_pads_of K) := by
  refine F.ok sc_pads_of (fun vs H Q E h => ?_) (fun cdv A outer s H vs Q E hr h => ?_)
  · obtain ⟨n, w, x, rfl, hs, h0, hw, q⟩ := h
    rfl
  obtain ⟨n, w, x, rfl, hs, h0, hw, q⟩ := h
  refine ⟨_, pss_cons (ps_set (i := 3) sc_pads_of.nd rfl (Or.inl rfl) (pe_callBH (call_max2N rfl) B.z_max rfl bo_max (pa_cons (pe_int) (pa_cons (pe_op op_sub (pv 1) (pv 0)) (pa_nil)))))
    (pss_cons (ps_if (pt_cmpR op_eq (pv 2) (pe_str) (nomark _)) (pss_one (ps_ret (pe_tup (pa_cons (pe_int) (pa_cons (pv 3) (pa_nil)))))) (pss_nil))
    (pss_cons (ps_if (pt_cmpR op_eq (pv 2) (pe_str) (nomark _)) (pss_one (ps_ret (pe_tup (pa_cons (pv 3) (pa_cons (pe_int) (pa_nil)))))) (pss_nil))
    (pss_one (ps_ret (pe_tup (pa_cons (pe_op op_fdivB (pv 3) (pe_int)) (pa_cons (pe_op op_sub (pv 3) (pe_op op_fdivB (pv 3) (pe_int))) (pa_nil)))))))), ?_⟩
  walk_at "st"
  have b := lk_bd n w h0 hw
  have e : pB x n w = lk n w - pA x n w := rfl
  rcases hs with rfl | rfl | rfl
  · rw [pAl] at q e
    walk_at "rd"
    rename_i k hk p' H' g' e'
    exact q _ _ g' (by rw [e', show k = pB "left" n w by omega])
  · rw [pAr] at q e
    walk_at "rd"
    rename_i k hk p' H' g' e'
    exact q _ _ g' (by rw [e', show k = lk n w by omega, show pB "right" n w = 0 by omega])
  · rw [pAm] at q e
    walk_at "rd"
    rename_i k hk p' H' g' e'
    exact q _ _ g' (by rw [e', e, show k = lk n w by omega])
theorem ok_padded {f : Addr} {fd : FuncData} (F : Fun K "padded" "padded" s_padded f fd) (B : Blt mg) (C_pads_of : Has P w K mg base "pads_of" 1 ["length", "width", "side"] (sp_pads_of K)) : FnOk P w K mg base CX0 2 f fd ["text", "width", "fill", "side"] (sp_padded K) := by
  refine F.ok sc_padded (fun vs H Q E h => ?_) (fun cdv A outer s H vs Q E hr h => ?_)
  · obtain ⟨t, w, f, x, rfl, hs, h0, hw, q⟩ := h
    rfl
  obtain ⟨t, w, f, x, rfl, hs, h0, hw, q⟩ := h
  refine ⟨_, pss_cons (ps_set (i := 4) sc_padded.nd rfl (Or.inl rfl) (pe_callH C_pads_of hr rfl (pa_cons (pe_callBH call_lenT B.z_len rfl bo_len (pa_cons (pv 0) (pa_nil))) (pa_cons (pv 1) (pa_cons (pv 3) (pa_nil))))))
    (pss_one (ps_ret (pe_op op_addS (pe_op op_addS (pe_op op_mulT (pv 2) (pe_ix ix_tup (pv 4) (pe_int) (fun _ _ => rfl))) (pv 0)) (pe_op op_mulT (pv 2) (pe_ix ix_tup (pv 4) (pe_int) (fun _ _ => rfl)))))), ?_⟩
  walk_at "st"
  have b := pads_bd (n := t.length) hs (by omega) hw
  have b' := b
  obtain ⟨b1, b2, b3, _⟩ := b'
  have bl := lk_bd t.length w (by omega) hw
  walk_at "rd"
  exact q _ (by assumption)

local macro_rules | `(tactic| walk_at "rdc") => `(tactic| ((with_reducible refine' r_kLstN ?hz ?_); (case hz => exact small (by simp only [List.length_cons, List.length_nil]; decide)); intro p' H' g' n' e'))
local macro_rules | `(tactic| walk_at "rd1") => `(tactic| ((with_reducible refine' r_kLstN ?hz ?_); (case hz => exact small (by simp only [List.length_cons, List.length_nil]; decide)); intro p' H' g' n' e'))
theorem ok_stripped {f : Addr} {fd : FuncData} (F : Fun K "stripped" "stripped" s_stripped f fd) (B : Blt mg) (C_pads_of : Has P w K mg base "pads_of" 1 ["length", "width", "side"] (sp_pads_of K)) (C_padded : Has P w K mg base "padded" 2 ["text", "width", "fill", "side"] (sp_padded K)) : FnOk P w K mg base CX0 3 f fd ["text", "width", "fill", "side"] (sp_stripped K) := by
  refine F.ok sc_stripped (fun vs H Q E h => ?_) (fun cdv A outer s H vs Q E hr h => ?_)
  · obtain ⟨t, w, f, x, rfl, hs, h0, hw, hw1, q⟩ := h
    rfl
  obtain ⟨t, w, f, x, rfl, hs, h0, hw, hw1, q⟩ := h
  refine ⟨_, pss_cons (ps_if (pt_cmpR op_gt (pe_callBH call_lenT B.z_len rfl bo_len (pa_cons (pv 0) (pa_nil))) (pv 1) (nomark _)) (pss_one (ps_ret (pe_lst (pa_cons (pv 0) (pa_nil))))) (pss_nil))
    (pss_cons (ps_set (i := 4) sc_stripped.nd rfl (Or.inl rfl) (pe_lst (pa_nil)))
    (pss_cons (ps_for PassesOwn.never rfl (pi_range1 rfl B.z_range (pa_cons (pe_op op_add (pv 1) (pe_int)) (pa_nil))) (pg_name (i := 5) sc_stripped.nd rfl (Or.inl rfl)) (pss_cons (ps_set (i := 6) sc_stripped.nd rfl (Or.inl rfl) (pe_ix ix_tup (pe_callH C_pads_of hr rfl (pa_cons (pv 5) (pa_cons (pv 1) (pa_cons (pv 3) (pa_nil))))) (pe_int) (fun _ _ => rfl)))
    (pss_cons (ps_set (i := 7) sc_stripped.nd rfl (Or.inl rfl) (pe_slice sl_str (pv 0) (po_some (pv 6)) (po_some (pe_op op_add (pv 6) (pv 5)))))
    (pss_one (ps_if (pt_cmpR op_eq (pe_callH C_padded hr rfl (pa_cons (pv 7) (pa_cons (pv 1) (pa_cons (pv 2) (pa_cons (pv 3) (pa_nil)))))) (pv 0) (nomark _)) (pss_one (ps_expr (pe_bm PySem.F.plainAttrs_list PySem.F.slot_list_append PySem.F.type_list_append mt_append (pv 4) (pa_cons (pv 7) (pa_nil))))) (pss_nil))))))
    (pss_one (ps_ret (pv 4))))), ?_⟩
  walk_at "st"
  walk_at "rd"
  · rename_i hc p' H' g' n' e'
    exact q _ _ g' n' (by rw [e', strips_long hc]; rfl)
  · rename_i hc p' H0 g' n' e'
    refine r_kForR (by omega) (by omega) (fun i σ H2 => Same H H2 ∧ ∃ (r1 r2 r3 : Option V), H2 p' = some (.lst (tsV (((List.range i).filter (gd t w f x)).map (sl t w x)))) ∧ σ = [some (.str (T t)), some (.int w), some (.str (T [f])), some (.str x), some (.ref p'), r1, r2, r3]) ⟨g', none, none, none, by rw [e']; rfl, rfl⟩ ?_ ?_
    · rintro i σ H2 hi ⟨gg, r1, r2, r3, e2, rfl⟩
      obtain ⟨b1, b2, b3, _⟩ := pads_bd (n := (i : Int)) hs (by omega) hw
      have bl := lk_bd (i : Int) w (by omega) hw
      rw [show (0 + (i : Int)) = (i : Int) by omega]
      have hl : (((List.range i).filter (gd t w f x)).map (sl t w x)).length ≤ i := by
        rw [List.length_map]; exact Nat.le_trans (List.length_filter_le _ _) (by rw [List.length_range]; exact Nat.le_refl _)
      walk_at "rd"
      · rename_i p1 H1 g1 e1 H3 g3 hc3
        refine r_append (g3.at (g1.at e2)) (small1000 (by rw [List.length_map]; omega)) ?_
        refine ⟨same_upd (gg.trans (g1.trans g3)) n', _, _, _, ?_, rfl⟩
        rw [upd_same, List.range_succ, List.filter_append, List.filter_cons, if_pos (show gd t w f x i = true from decide_eq_true hc3), List.filter_nil, List.map_append]
        unfold tsV
        rw [List.map_append]; rfl
      · rename_i p1 H1 g1 e1 H3 g3 hc3
        refine ⟨gg.trans (g1.trans g3), _, _, _, ?_, rfl⟩
        rw [g3.at (g1.at e2), List.range_succ, List.filter_append, List.filter_cons, if_neg (show ¬ gd t w f x i = true from fun z => hc3 (of_decide_eq_true z)), List.filter_nil, List.append_nil]
    · rintro σ H2 ⟨gg, r1, r2, r3, e2, rfl⟩
      walk_at "rd"
      refine q _ _ gg n' ?_
      rw [e2]; unfold strips; rw [if_neg hc]
theorem ok_law_all_texts {f : Addr} {fd : FuncData} (F : Fun K "_law_all_texts" "_law_all_texts" s_law_all_texts f fd) (B : Blt mg) : FnOk P w K mg base CX0 1 f fd ["_law_found"] (sp_law_all_texts K) := by
  refine F.ok sc_law_all_texts (fun vs H Q E h => ?_) (fun cdv A outer s H vs Q E hr h => ?_)
  · obtain ⟨p, ts, rfl, hp, q⟩ := h
    rfl
  obtain ⟨p, ts, rfl, hp, q⟩ := h
  refine ⟨_, pss_cons (ps_if (pt_not (pt_val (pe_callBH call_isi B.z_isinstance rfl bo_isinstance (pa_cons (pv 0) (pa_cons (pe_bltn rfl B.z_list bo_list (v := .ty "list") rfl) (pa_nil)))))) (pss_one (ps_ret (pe_bl))) (pss_nil))
    (pss_cons (ps_for PassesOwn.never rfl (pi_list (pv 0)) (pg_name (i := 1) sc_law_all_texts.nd rfl (Or.inl rfl)) (pss_one (ps_if (pt_not (pt_val (pe_callBH call_isi B.z_isinstance rfl bo_isinstance (pa_cons (pv 1) (pa_cons (pe_bltn rfl B.z_str bo_str (v := .ty "str") rfl) (pa_nil)))))) (pss_one (ps_ret (pe_bl))) (pss_nil))))
    (pss_one (ps_ret (pe_bl)))), ?_⟩
  walk_at "st"
  walk_at "rd"
  refine r_kForL (SqL.of hp) (fun i σ H' => H' = H ∧ ∃ r : Option V, σ = [some (.ref p), r]) ⟨rfl, none, rfl⟩ (fun i σ H' _ z => by rw [z.1]; exact SqL.of hp) ?_ ?_
  · rintro i x σ H' hi ⟨rfl, r, rfl⟩
    obtain ⟨l, _, rfl⟩ := List.mem_map.mp (List.mem_of_getElem? hi)
    walk_at "rd"
    exact ⟨rfl, _, rfl⟩
  · rintro σ H' ⟨rfl, r, rfl⟩
    walk_at "rd"
    exact q

theorem ok_stripped_inside {f : Addr} {fd : FuncData} (F : Fun K "stripped_inside" "stripped_inside" s_stripped_inside f fd) (B : Blt mg) (C_stripped : Has P w K mg base "stripped" 3 ["text", "width", "fill", "side"] (sp_stripped K)) : FnOk P w K mg base CX0 4 f fd ["text", "lead", "width", "fill"] (sp_stripped_inside K) := by
  refine F.ok sc_stripped_inside (fun vs H Q E h => ?_) (fun cdv A outer s H vs Q E hr h => ?_)
  · obtain ⟨t, l, w, f, rfl, h1, h2, h5, h3, h4, q⟩ := h
    rfl
  obtain ⟨t, l, w, f, rfl, h1, h2, h5, h3, h4, q⟩ := h
  refine ⟨_, pss_cons (ps_if (pt_not (pt_val (pe_bm PySem.F.plainAttrs_str PySem.F.slot_str_startswith PySem.F.type_str_startswith mt_startswithT (pv 0) (pa_cons (pv 1) (pa_nil))))) (pss_one (ps_ret (pe_lst (pa_nil)))) (pss_nil))
    (pss_one (ps_ret (pe_callH C_stripped hr rfl (pa_cons (pe_slice sl_str (pv 0) (po_some (pe_callBH call_lenT B.z_len rfl bo_len (pa_cons (pv 1) (pa_nil)))) (po_none)) (pa_cons (pe_op op_sub (pv 2) (pe_callBH call_lenT B.z_len rfl bo_len (pa_cons (pv 1) (pa_nil)))) (pa_cons (pv 3) (pa_cons (pe_str) (pa_nil)))))))), ?_⟩
  walk_at "st"
  walk_at "rd"
  · rename_i hc p' H' g' n' e'
    exact q _ _ g' n' (by rw [e']; unfold stin; rw [if_pos hc, Int.toNat_natCast])
  · rename_i hc p' H' g' n' e'
    exact q _ _ g' n' (by rw [e']; unfold stin; rw [if_neg hc]; rfl)

theorem ok_law_fills_ahead {f : Addr} {fd : FuncData} (F : Fun K "_law_fills_ahead" "_law_fills_ahead" s_law_fills_ahead f fd) (B : Blt mg) : FnOk P w K mg base CX0 1 f fd ["_law_text", "_law_fill_here"] (sp_law_fills_ahead K) := by
  refine F.ok sc_law_fills_ahead (fun vs H Q E h => ?_) (fun cdv A outer s H vs Q E hr h => ?_)
  · obtain ⟨t, f, rfl, h0, q⟩ := h
    rfl
  obtain ⟨t, f, rfl, h0, q⟩ := h
  refine ⟨_, pss_cons (ps_set (i := 2) sc_law_fills_ahead.nd rfl (Or.inl rfl) (pe_int))
    (pss_cons (ps_while PassesOwn.never (PW.pt (pw_and (pt_cmpR op_lt (pv 2) (pe_callBH call_lenT B.z_len rfl bo_len (pa_cons (pv 0) (pa_nil))) (nomark _)) (pw_and1 (pt_cmpR op_eq (pe_ix ix_str (pv 0) (pv 2) (fun _ _ => rfl)) (pv 1) (nomark _))))) (pss_one (ps_set (i := 2) sc_law_fills_ahead.nd rfl (Or.inl rfl) (pe_op op_add (pv 2) (pe_int)))))
    (pss_one (ps_ret (pv 2)))), ?_⟩
  walk_at "st"
  have fl := fa_le f t
  walk_at "rd"
  refine r_while (fun k σ H' => H' = H ∧ ∃ n : Nat, k = t.length - n ∧ n ≤ t.length ∧ (∀ j, j < n → t.getD j 0 = f) ∧ σ = [some (.str (T t)), some (.str (T [f])), some (.int n)]) ⟨_, rfl, 0, rfl, Nat.zero_le _, fun j hj => absurd hj (Nat.not_lt_zero j), rfl⟩ ?_
  rintro k σ H' ⟨rfl, n, rfl, hn, hj, rfl⟩
  walk_at "rd"
  · rename_i h1 h2
    rw [Int.toNat_natCast] at h2
    refine ⟨t.length - (n + 1), by omega, rfl, n + 1, rfl, by omega, fun j hj' => ?_, rfl⟩
    rcases Nat.lt_or_ge j n with z | z
    · exact hj j z
    · rw [show j = n by omega]; exact (List.cons.inj h2).1
  · rename_i h1 h2
    rw [Int.toNat_natCast] at h2
    rw [fa_eq hn hj (fun _ z => h2 (by rw [z]))] at q
    exact q
  · rename_i h1
    rw [fa_eq hn hj (fun z => absurd z (by omega))] at q
    exact q
theorem ok_law_just_those {f : Addr} {fd : FuncData} (F : Fun K "_law_just_those" "_law_just_those" s_law_just_those f fd) (B : Blt mg) (C_law_fills_ahead : Has P w K mg base "_law_fills_ahead" 1 ["_law_text", "_law_fill_here"] (sp_law_fills_ahead K)) : FnOk P w K mg base CX0 2 f fd ["_law_text", "_law_width", "_law_fill_here", "_law_side"] (sp_law_just_those K) := by
  refine F.ok sc_law_just_those (fun vs H Q E h => ?_) (fun cdv A outer s H vs Q E hr h => ?_)
  · obtain ⟨t, w, f, x, rfl, hs, h0, hw0, hw, q⟩ := h
    rfl
  obtain ⟨t, w, f, x, rfl, hs, h0, hw0, hw, q⟩ := h
  refine ⟨_, pss_cons (ps_if (pt_cmpR op_ne (pe_callBH call_lenT B.z_len rfl bo_len (pa_cons (pv 0) (pa_nil))) (pv 1) (nomark _)) (pss_one (ps_ret (pe_slice sl_list (pe_lst (pa_cons (pv 0) (pa_nil))) (po_none) (po_some (pe_callTy call_int1N rfl B.z_int bo_int (pa_cons (pe_cmpR op_gt (pe_callBH call_lenT B.z_len rfl bo_len (pa_cons (pv 0) (pa_nil))) (pv 1) (nomark _)) (pa_nil))))))) (pss_nil))
    (pss_cons (ps_set (i := 4) sc_law_just_those.nd rfl (Or.inl rfl) (pe_callH C_law_fills_ahead hr rfl (pa_cons (pv 0) (pa_cons (pv 2) (pa_nil)))))
    (pss_cons (ps_set (i := 5) sc_law_just_those.nd rfl (Or.inl rfl) (pe_callH C_law_fills_ahead hr rfl (pa_cons (pe_slice3 (pv 0) (po_none) (po_none) (pe_un un_neg (pe_int))) (pa_cons (pv 2) (pa_nil)))))
    (pss_cons (ps_set (i := 6) sc_law_just_those.nd rfl (Or.inl rfl) (pe_lst (pa_nil)))
    (pss_cons (ps_for PassesOwn.never rfl (pi_range3 rfl B.z_range (pa_cons (pv 1) (pa_cons (pe_un un_neg (pe_int)) (pa_cons (pe_un un_neg (pe_int)) (pa_nil))))) (pg_name (i := 7) sc_law_just_those.nd rfl (Or.inl rfl)) (pss_cons (ps_set (i := 8) sc_law_just_those.nd rfl (Or.inl rfl) (pe_ix ix_map (pe_map (pm_cons (x := "left") (pe_int) (pm_cons (x := "right") (pv 7) (pm_cons (x := "middle") (pe_op op_fdivB (pv 7) (pe_int)) (pm_nil)))) rfl rfl (by simp) (by decide) (by decide +kernel)) (pv 3) (fun _ _ => rfl)))
    (pss_one (ps_if (PW.pt (pw_and (pt_cmpR op_le (pv 8) (pv 4) (nomark _)) (pw_and1 (pt_cmpR op_le (pe_op op_sub (pv 7) (pv 8)) (pv 5) (nomark _))))) (pss_one (ps_expr (pe_bm PySem.F.plainAttrs_list PySem.F.slot_list_append PySem.F.type_list_append mt_append (pv 6) (pa_cons (pe_slice sl_str (pv 0) (po_some (pv 8)) (po_some (pe_op op_add (pe_op op_sub (pv 1) (pv 7)) (pv 8)))) (pa_nil))))) (pss_nil)))))
    (pss_one (ps_ret (pv 6))))))), ?_⟩
  walk_at "st"
  walk_at "rd"
  · rename_i hc p' H' g' n' e'
    refine r_kForD (by omega) (fun i σ H2 => Same H H2 ∧ ∃ (r1 r2 : Option V), H2 p' = some (.lst (tsV (((List.range i).filter fun n : Nat => decide (pA x n w ≤ fa f t ∧ w - n - pA x n w ≤ fa f t.reverse)).map (sl t w x)))) ∧ σ = [some (.str (T t)), some (.int w), some (.str (T [f])), some (.str x), some (.int (fa f t)), some (.int (fa f t.reverse)), some (.ref p'), r1, r2]) ⟨g', none, none, by rw [e']; rfl, rfl⟩ ?_ ?_
    · rintro i σ H2 hi ⟨gg, r1, r2, e2, rfl⟩
      obtain ⟨a, b, e1, e3, e4, l, r, m⟩ := pA_nat (n := i) hs (by omega) hw
      have hl : (((List.range i).filter fun n : Nat => decide (pA x n w ≤ fa f t ∧ w - n - pA x n w ≤ fa f t.reverse)).map (sl t w x)).length ≤ i := by
        rw [List.length_map]; exact Nat.le_trans (List.length_filter_le _ _) (by rw [List.length_range]; exact Nat.le_refl _)
      have lA : lookV ((["left", "right", "middle"] : List Str).zip [.int 0, .int (w - i), .int ((w - i) / 2)]) x = some (.int a) := by
        have l3 := look3 (.int 0) (.int (w - i)) (.int ((w - i) / 2))
        rcases hs with rfl | rfl | rfl
        · rw [l rfl]; exact l3.1
        · rw [show (a : Int) = w - i by have := r rfl; omega]; exact l3.2.1
        · rw [show (a : Int) = (w - i) / 2 by have := m rfl; omega]; exact l3.2.2
      walk_at "rd"
      refine r_map (P := P) fun pm H3a hpm g3a e3a => ?_
      walk_at "rd"
      refine ⟨e3a, rfl, fun H3 sb3 e3 => ?_⟩
      have g3 : Same H2 H3 := fun b o z => sb3 b o (fun e => by rw [e, hpm] at z; cases z) (g3a b o z)
      clear sb3 e3a g3a
      walk_at "rd"
      refine r_ixM (P := P) e3 lA ?_
      walk_at "rd"
      · rename_i c1 c2
        refine r_append (g3.at e2) (small1000 (by rw [List.length_map]; omega)) ?_
        refine ⟨same_upd (gg.trans g3) n', _, _, ?_, rfl⟩
        rw [upd_same, List.range_succ, List.filter_append, List.filter_cons, if_pos (decide_eq_true (by rw [e1]; exact ⟨c1, c2⟩)), List.filter_nil, List.map_append]
        unfold tsV
        rw [List.map_append, show w - (w - (i : Int)) + (a : Int) = (a : Int) + i by omega]
        unfold sl
        rw [List.map_cons, e1]; rfl
      · rename_i c1 c2
        refine ⟨gg.trans g3, _, _, ?_, rfl⟩
        rw [g3.at e2, List.range_succ, List.filter_append, List.filter_cons, if_neg (fun z => c2 (by have := (of_decide_eq_true z).2; rw [e1] at this; exact this)), List.filter_nil, List.append_nil]
      · rename_i c1
        refine ⟨gg.trans g3, _, _, ?_, rfl⟩
        rw [g3.at e2, List.range_succ, List.filter_append, List.filter_cons, if_neg (fun z => c1 (by have := (of_decide_eq_true z).1; rw [e1] at this; exact this)), List.filter_nil, List.append_nil]
    · rintro σ H2 ⟨gg, r1, r2, e2, rfl⟩
      walk_at "rd"
      refine q _ _ gg ?_
      rw [e2, strips_fa hs hw hc, show (w - -1).toNat = (w + 1).toNat by omega]
  · rename_i c0 p1 H1 g1 n1 e1 c1 p0 H0 g0 e0
    exact q _ _ (g1.trans g0) (by rw [e0, strips_long c1]; rfl)
  · rename_i c0 p1 H1 g1 n1 e1 c1 p0 H0 g0 e0
    exact q _ _ (g1.trans g0) (by rw [e0, strips_short hs hw (by omega)]; rfl)
theorem ok_law_just_rests {f : Addr} {fd : FuncData} (F : Fun K "_law_just_rests" "_law_just_rests" s_law_just_rests f fd) (B : Blt mg) (C_law_fills_ahead : Has P w K mg base "_law_fills_ahead" 1 ["_law_text", "_law_fill_here"] (sp_law_fills_ahead K)) : FnOk P w K mg base CX0 2 f fd ["_law_text", "_law_lead", "_law_width", "_law_fill_here"] (sp_law_just_rests K) := by
  refine F.ok sc_law_just_rests (fun vs H Q E h => ?_) (fun cdv A outer s H vs Q E hr h => ?_)
  · obtain ⟨t, l, w, f, rfl, h0, h1, hw0, hw, q⟩ := h
    rfl
  obtain ⟨t, l, w, f, rfl, h0, h1, hw0, hw, q⟩ := h
  refine ⟨_, pss_cons (ps_if (PW.pt (pw_or (pt_cmpR op_ne (pe_slice sl_str (pv 0) (po_none) (po_some (pe_callBH call_lenT B.z_len rfl bo_len (pa_cons (pv 1) (pa_nil))))) (pv 1) (nomark _)) (pw_or1 (pt_cmpR op_lt (pe_callBH call_lenT B.z_len rfl bo_len (pa_cons (pv 0) (pa_nil))) (pv 2) (nomark _))))) (pss_one (ps_ret (pe_lst (pa_nil)))) (pss_nil))
    (pss_cons (ps_set (i := 4) sc_law_just_rests.nd rfl (Or.inr rfl) (pe_slice sl_str (pv 0) (po_some (pe_callBH call_lenT B.z_len rfl bo_len (pa_cons (pv 1) (pa_nil)))) (po_none)))
    (pss_cons (ps_if (pt_cmpR op_gt (pe_callBH call_lenT B.z_len rfl bo_len (pa_cons (pv 0) (pa_nil))) (pv 2) (nomark _)) (pss_one (ps_ret (pe_lst (pa_cons (pv 4) (pa_nil))))) (pss_nil))
    (pss_cons (ps_set (i := 5) sc_law_just_rests.nd rfl (Or.inr rfl) (pe_callH C_law_fills_ahead hr rfl (pa_cons (pv 4) (pa_cons (pv 3) (pa_nil)))))
    (pss_one (ps_ret (pe_comp (cl := [("_law_rest", s.heap.objs.size + 1 + 0), ("_law_fills", s.heap.objs.size + 1 + 1)]) (fr := ["_law_fills", "_law_rest"]) (is := [5, 4]) rfl rfl ⟨rfl, ⟨rfl, trivial⟩⟩ rfl ⟨⟨rfl, rfl, Or.inl rfl⟩, ⟨⟨rfl, rfl, Or.inl rfl⟩, trivial⟩⟩ (by decide) (by decide +kernel) rfl (by decide +kernel) rfl (pi_range1 rfl B.z_range (pa_cons (pe_op op_add (pv 5) (pe_int)) (pa_nil))) (fun _ _ _ _ => pifs_nil) (fun _ _ _ _ => pe_slice sl_str (pv 2) (po_some (pe_op op_sub (pv 1) (pv 0))) (po_none)))))))), ?_⟩
  walk_at "st"
  have fl := fa_le f (t.drop (l.length : Int).toNat)
  have dl : (t.drop (l.length : Int).toNat).length = t.length - l.length := by rw [List.length_drop]; omega
  walk_at "rd"
  · rename_i c1 c2 p' H' g' n' e'
    rw [Int.toNat_natCast] at c1
    refine q _ _ g' n' ?_
    have c3 := congrArg List.length c1
    rw [List.length_take] at c3
    rw [e']; unfold stin; rw [if_pos c1, strips_short (.inr (.inl rfl)) (by omega) (by rw [List.length_drop]; omega)]; rfl
  · rename_i c1 c2 c3 p' H' g' n' e'
    rw [Int.toNat_natCast] at c1 e'
    refine q _ _ g' n' ?_
    have c4 := congrArg List.length c1
    rw [List.length_take] at c4
    rw [e']; unfold stin; rw [if_pos c1, strips_long (by rw [List.length_drop]; omega)]; rfl
  · rename_i c1 c2 c3
    rw [Int.toNat_natCast] at c1 fl dl ⊢
    have c4 := congrArg List.length c1
    rw [List.length_take] at c4
    have e : stin t l w f = (List.range (fa f (t.drop l.length) + 1)).map fun k => (t.drop l.length).drop (fa f (t.drop l.length) - k) := by
      unfold stin; rw [if_pos c1, strips_right (by omega) (by rw [List.length_drop]; omega)]
    generalize t.drop l.length = z at e fl dl ⊢
    refine r_kCompRN (by omega) (by omega) (Nat.le_of_lt (small1000 (by omega))) (fun i ys H' => H' = H ∧ ys = tsV ((List.range i).map fun k => z.drop (fa f z - k))) ⟨rfl, rfl⟩ (fun i ys H' _ zz => by rw [zz.2]; simp) ?_ ?_
    · rintro i ys H' hi ⟨rfl, rfl⟩
      walk_at "rd"
      refine nxC hi ⟨rfl, ?_⟩
      unfold tsV
      rw [List.range_succ, List.map_append, List.map_append, show ((fa f z : Int) - (0 + (i : Int))).toNat = fa f z - i by omega]; rfl
    · rintro ys H' ⟨rfl, rfl⟩ p H2 g2 n2 e2
      refine q _ _ g2 n2 ?_
      rw [e2, e, show ((fa f z : Int) + 1).toNat = fa f z + 1 by omega]
  · rename_i c1 p' H' g' n' e'
    rw [Int.toNat_natCast] at c1
    refine q _ _ g' n' ?_
    rw [e']; unfold stin; rw [if_neg c1]; rfl
theorem ok_law {f : Addr} {fd : FuncData} (F : Fun K "law" "law" s_law f fd) (B : Blt mg) (C_law_cell_at : Has P w K mg base "_law_cell_at" 1 ["_law_script", "_law_k"] (sp_law_cell_at K)) (C_law_fill : Has P w K mg base "_law_fill" 2 ["_law_cell"] (sp_law_fill K)) (C_law_pick : Has P w K mg base "_law_pick" 1 ["_law_cell", "_law_salt", "_law_many"] (sp_law_pick K)) (C_law_letters : Has P w K mg base "_law_letters" 2 ["_law_cell", "_law_turn", "_law_size_here", "_law_fill_here"] (sp_law_letters K)) (C_stripped : Has P w K mg base "stripped" 3 ["text", "width", "fill", "side"] (sp_stripped K)) (C_stripped_inside : Has P w K mg base "stripped_inside" 4 ["text", "lead", "width", "fill"] (sp_stripped_inside K)) (C_law_just_rests : Has P w K mg base "_law_just_rests" 2 ["_law_text", "_law_lead", "_law_width", "_law_fill_here"] (sp_law_just_rests K)) (C_law_size : Has P w K mg base "_law_size" 2 ["_law_cell", "_law_turn"] (sp_law_size K)) (C_law_all_texts : Has P w K mg base "_law_all_texts" 1 ["_law_found"] (sp_law_all_texts K)) (C_law_just_those : Has P w K mg base "_law_just_those" 2 ["_law_text", "_law_width", "_law_fill_here", "_law_side"] (sp_law_just_those K)) : FnOk P w K mg base CX0 5 f fd ["_law_script"] (sp_law K) := by
  refine F.ok sc_law (fun vs H Q E h => ?_) (fun cdv A outer s H vs Q E hr h => ?_)
  · obtain ⟨a, ns, rfl, hS, h63, k⟩ := h
    rfl
  obtain ⟨a, ns, rfl, hS, h63, k⟩ := h
  refine ⟨_, pss_cons (ps_set (i := 1) sc_law.nd rfl (Or.inl rfl) (pe_callH C_law_cell_at hr rfl (pa_cons (pv 0) (pa_cons (pe_int) (pa_nil)))))
    (pss_cons (ps_set (i := 2) sc_law.nd rfl (Or.inl rfl) (pe_callH C_law_fill hr rfl (pa_cons (pe_callH C_law_cell_at hr rfl (pa_cons (pv 0) (pa_cons (pe_int) (pa_nil)))) (pa_nil))))
    (pss_cons (ps_set (i := 3) sc_law.nd rfl (Or.inl rfl) (pe_callH C_law_pick hr rfl (pa_cons (pv 1) (pa_cons (pe_int) (pa_cons (pe_int) (pa_nil))))))
    (pss_cons (ps_set (i := 4) sc_law.nd rfl (Or.inl rfl) (pe_ix ix_list (pe_lst (pa_cons (pv 3) (pa_cons (pv 3) (pa_cons (pv 3) (pa_cons (pe_callH C_law_size hr rfl (pa_cons (pv 1) (pa_cons (pe_int) (pa_nil)))) (pa_nil)))))) (pe_callH C_law_pick hr rfl (pa_cons (pv 1) (pa_cons (pe_int) (pa_cons (pe_int) (pa_nil))))) (fun _ _ => rfl)))
    (pss_cons (ps_set (i := 5) sc_law.nd rfl (Or.inl rfl) (pe_callH C_law_letters hr rfl (pa_cons (pe_callH C_law_cell_at hr rfl (pa_cons (pv 0) (pa_cons (pe_int) (pa_nil)))) (pa_cons (pe_int) (pa_cons (pv 4) (pa_cons (pv 2) (pa_nil)))))))
    (pss_cons (ps_if (pt_cmpR op_eq (pe_callH C_law_pick hr rfl (pa_cons (pv 1) (pa_cons (pe_int) (pa_cons (pe_int) (pa_nil))))) (pe_int) (nomark _)) (pss_one (ps_set (i := 5) sc_law.nd rfl (Or.inl rfl) (pe_op op_addS (pe_op op_mulT (pv 2) (pe_op op_fdivB (pv 4) (pe_int))) (pe_slice sl_str (pv 5) (po_some (pe_op op_fdivB (pv 4) (pe_int))) (po_none))))) (pss_nil))
    (pss_cons (ps_for PassesOwn.never rfl (pi_list (pe_lst (pa_cons (pe_str) (pa_cons (pe_str) (pa_cons (pe_str) (pa_nil)))))) (pg_name (i := 6) sc_law.nd rfl (Or.inl rfl)) (pss_cons (ps_set (i := 7) sc_law.nd rfl (Or.inl rfl) (pe_callH C_stripped hr rfl (pa_cons (pv 5) (pa_cons (pv 3) (pa_cons (pv 2) (pa_cons (pv 6) (pa_nil)))))))
    (pss_one (ps_if (PW.pt (pw_or (pt_not (pt_val (pe_callH C_law_all_texts hr rfl (pa_cons (pv 7) (pa_nil))))) (pw_or1 (pt_cmpR (op_neLs (hu_lt hr)) (pv 7) (pe_callH C_law_just_those hr rfl (pa_cons (pv 5) (pa_cons (pv 3) (pa_cons (pv 2) (pa_cons (pv 6) (pa_nil)))))) (nomark _))))) (pss_one (ps_ret (pe_bl))) (pss_nil)))))
    (pss_cons (ps_set (i := 8) sc_law.nd rfl (Or.inl rfl) (pe_callH C_law_letters hr rfl (pa_cons (pe_callH C_law_cell_at hr rfl (pa_cons (pv 0) (pa_cons (pe_int) (pa_nil)))) (pa_cons (pe_int) (pa_cons (pe_op op_modP (pe_op op_fdivB (pe_callH C_law_cell_at hr rfl (pa_cons (pv 0) (pa_cons (pe_int) (pa_nil)))) (pe_int)) (pe_int)) (pa_cons (pv 2) (pa_nil)))))))
    (pss_cons (ps_for PassesOwn.never rfl (pi_list (pe_lst (pa_cons (pe_slice sl_str (pv 5) (po_none) (po_some (pe_callH C_law_pick hr rfl (pa_cons (pv 1) (pa_cons (pe_int) (pa_cons (pe_int) (pa_nil))))))) (pa_cons (pv 8) (pa_cons (pe_str) (pa_nil)))))) (pg_name (i := 9) sc_law.nd rfl (Or.inl rfl)) (pss_cons (ps_set (i := 7) sc_law.nd rfl (Or.inl rfl) (pe_callH C_stripped_inside hr rfl (pa_cons (pv 5) (pa_cons (pv 9) (pa_cons (pv 3) (pa_cons (pv 2) (pa_nil)))))))
    (pss_cons (ps_set (i := 10) sc_law.nd rfl (Or.inl rfl) (pe_callH C_law_just_rests hr rfl (pa_cons (pv 5) (pa_cons (pv 9) (pa_cons (pv 3) (pa_cons (pv 2) (pa_nil)))))))
    (pss_cons (ps_if (PW.pt (pw_or (pt_not (pt_val (pe_callH C_law_all_texts hr rfl (pa_cons (pv 7) (pa_nil))))) (pw_or1 (pt_cmpR (op_neLs (hu_lt hr)) (pv 7) (pv 10) (nomark _))))) (pss_one (ps_ret (pe_bl))) (pss_nil))
    (pss_cons (ps_expr (pe_bm PySem.F.plainAttrs_list PySem.F.slot_list_append PySem.F.type_list_append mt_append (pv 7) (pa_cons (pe_str) (pa_nil))))
    (pss_one (ps_if (pt_cmpR (op_neLs (hu_lt hr)) (pe_callH C_stripped_inside hr rfl (pa_cons (pv 5) (pa_cons (pv 9) (pa_cons (pv 3) (pa_cons (pv 2) (pa_nil)))))) (pv 10) (nomark _)) (pss_one (ps_ret (pe_bl))) (pss_nil))))))))
    (pss_one (ps_ret (pe_bl))))))))))), ?_⟩
  walk_at "st"
  walk_at "rd"
  rename_i v4 v3 c0 H2 g2 w0 h02 h12 v1 H1 g1 h01 h11 p0 H0 g0 n0 e0 v0 h00 h10
  refine r_ixAll (SqL.of e0) (by omega) (by show _ < (4 : Int); omega) fun x hx => ?_
  have hm := List.mem_of_getElem? hx
  simp only [List.mem_cons, List.not_mem_nil, or_false] at hm
  have hx : ∃ z : Int, x = .int z ∧ 0 ≤ z ∧ z ≤ 400 := by
    rcases hm with rfl | rfl | rfl | rfl
    · exact ⟨_, rfl, by omega, by omega⟩
    · exact ⟨_, rfl, by omega, by omega⟩
    · exact ⟨_, rfl, by omega, by omega⟩
    · exact ⟨_, rfl, by omega, by omega⟩
  obtain ⟨z, rfl, hz0, hz1⟩ := hx
  walk_at "rd"
  all_goals
    rename_i v6 l0 H4 g4 h04 v5 h05 h15 c5 p3 H3 g3 n3 e3
    refine r_kForL (SqL.of e3) (fun i σ H' => Same H3 H' ∧ ∃ (tx : List Nat) (r1 r2 : Option V), tx.length ≤ 400 ∧ σ = [some (.ref a), some (.int v4), some (.str (T [c0])), some (.int w0), some (.int z), some (.str (T tx)), r1, r2, none, none, none]) ⟨Same.refl _, _, none, none, ?_, rfl⟩ (fun i σ H' _ z => SqL.of (z.1.at e3)) ?_ ?_
    · first | omega | (simp only [List.length_append, List.length_replicate, List.length_drop]; omega)
    · rintro i x σ H' hi ⟨gg, tx, r1, r2, htx, rfl⟩
      have hm := List.mem_of_getElem? hi
      simp only [List.mem_cons, List.not_mem_nil, or_false] at hm
      have hx : ∃ y : Str, x = .str y ∧ Side y := by
        rcases hm with rfl | rfl | rfl
        · exact ⟨_, rfl, .inl rfl⟩
        · exact ⟨_, rfl, .inr (.inl rfl)⟩
        · exact ⟨_, rfl, .inr (.inr rfl)⟩
      obtain ⟨y, rfl, hy⟩ := hx
      walk_at "rd"
      · exact ⟨by walk_at "sm", _, _, _, htx, rfl⟩
      · rename_i h; exact absurd rfl h
    · rintro σ H' ⟨gg, tx, r1, r2, htx, rfl⟩
      walk_at "rd"
      rename_i u3 u2 l9 H9 g9 h9 u1 hu0 hu1 p8 H8 g8 n8 e8
      refine r_kForL (SqL.of e8) (fun i σ H' => Same H8 H' ∧ ∃ (r1 r2 r3 r4 : Option V), σ = [some (.ref a), some (.int v4), some (.str (T [c0])), some (.int w0), some (.int z), some (.str (T tx)), r1, r2, some (.str (T l9)), r3, r4]) ⟨Same.refl _, _, _, none, none, rfl⟩ (fun i σ H' _ z => SqL.of (z.1.at e8)) ?_ ?_
      · rintro i x σ HA hi ⟨ga, q1, q2, q3, q4, rfl⟩
        have hm := List.mem_of_getElem? hi
        simp only [List.mem_cons, List.not_mem_nil, or_false] at hm
        have hx : ∃ ld : List Nat, x = .str (T ld) ∧ ld.length ≤ 400 := by
          rcases hm with rfl | rfl | rfl
          · exact ⟨_, rfl, by rw [List.length_take]; omega⟩
          · exact ⟨_, rfl, h9⟩
          · exact ⟨[], rfl, by decide⟩
        obtain ⟨ld, rfl, hld⟩ := hx
        have sl : (tsV (stin tx ld w0 c0)).length ≤ 1000 := by
          rw [List.length_map]; unfold stin; split
          · exact Nat.le_trans (strips_le (by omega)) (by decide)
          · decide
        walk_at "rd"
        · rename_i pB HB gB nB eB pC HC gC nC eC c1
          refine r_append (gC.at eB) (Nat.lt_of_le_of_lt sl (small1000 (Nat.le_refl _))) ?_
          have z1 : upd HC pB (.lst (tsV (stin tx ld w0 c0) ++ [.str "x"])) pC = some (.lst (tsV (stin tx ld w0 c0))) := by
            rw [upd_ne (fun e => by rw [e, eB] at nC; cases nC)]; exact eC
          have z2 : Same H8 (upd HC pB (.lst (tsV (stin tx ld w0 c0) ++ [.str "x"]))) := same_upd (ga.trans (gB.trans gC)) (ga.free nB)
          generalize upd HC pB (.lst (tsV (stin tx ld w0 c0) ++ [.str "x"])) = HD at z1 z2 ⊢
          walk_at "rd"
          all_goals first
            | exact ⟨by walk_at "sm", _, _, _, _, rfl⟩
            | (rename_i h; exact absurd rfl h)
        all_goals (rename_i h; exact absurd rfl h)
      · rintro σ HA ⟨ga, q1, q2, q3, q4, rfl⟩
        walk_at "rd"
        exact k _
end
theorem all_mk {l : PySem.W.OpenLaw} {w : World} {K : PySem.W.Frag} {h : Heap} {mg : Str → Option Value} {fa f0 f1 f2 f3 f4 f5 f6 f7 f8 f9 f10 f11 f12 f13 f14 f15 : Addr} (X : K.In h) (G : h.Ns mainGlobals mg) (hfa : mg "law" = some (.ref fa))
    {od0 an0 od1 an1 od2 an2 od3 an3 od4 an4 od5 an5 od6 an6 od7 an7 od8 an8 od9 an9 od10 an10 od11 an11 od12 an12 od13 an13 od14 an14 od15 an15 : Option Addr} {sl0 sl1 sl2 sl3 sl4 sl5 sl6 sl7 sl8 sl9 sl10 sl11 sl12 sl13 sl14 sl15 : Array (Option Value)} {oc0 kV0 dc0 pm0 cd0 ct0 oc1 kV1 dc1 pm1 cd1 ct1 oc2 kV2 dc2 pm2 cd2 ct2 oc3 kV3 dc3 pm3 cd3 ct3 oc4 kV4 dc4 pm4 cd4 ct4 oc5 kV5 dc5 pm5 cd5 ct5 oc6 kV6 dc6 pm6 cd6 ct6 oc7 kV7 dc7 pm7 cd7 ct7 oc8 kV8 dc8 pm8 cd8 ct8 oc9 kV9 dc9 pm9 cd9 ct9 oc10 kV10 dc10 pm10 cd10 ct10 oc11 kV11 dc11 pm11 cd11 ct11 oc12 kV12 dc12 pm12 cd12 ct12 oc13 kV13 dc13 pm13 cd13 ct13 oc14 kV14 dc14 pm14 cd14 ct14 oc15 kV15 dc15 pm15 cd15 ct15 : Value}
    (a0 : PySem.W.nsIn K mainGlobals "_law_cell_at" = some (some (.ref f0))) (l0 : K.lookup f0 = some ⟨oc0, od0, .func (PySem.W.fnOf "_law_cell_at" "_law_cell_at" (defArgs s_law_cell_at) (defBody s_law_cell_at) (defScope s_law_cell_at) .none kV0 dc0 pm0 an0 cd0 ct0), sl0⟩) (c0 : PySem.W.codeIn K cd0 "_law_cell_at" = true) (k0 : PySem.W.keepIn K (.ref f0) = true)
    (a1 : PySem.W.nsIn K mainGlobals "_law_pick" = some (some (.ref f1))) (l1 : K.lookup f1 = some ⟨oc1, od1, .func (PySem.W.fnOf "_law_pick" "_law_pick" (defArgs s_law_pick) (defBody s_law_pick) (defScope s_law_pick) .none kV1 dc1 pm1 an1 cd1 ct1), sl1⟩) (c1 : PySem.W.codeIn K cd1 "_law_pick" = true) (k1 : PySem.W.keepIn K (.ref f1) = true)
    (a2 : PySem.W.nsIn K mainGlobals "_law_sign" = some (some (.ref f2))) (l2 : K.lookup f2 = some ⟨oc2, od2, .func (PySem.W.fnOf "_law_sign" "_law_sign" (defArgs s_law_sign) (defBody s_law_sign) (defScope s_law_sign) .none kV2 dc2 pm2 an2 cd2 ct2), sl2⟩) (c2 : PySem.W.codeIn K cd2 "_law_sign" = true) (k2 : PySem.W.keepIn K (.ref f2) = true)
    (a3 : PySem.W.nsIn K mainGlobals "_law_fill" = some (some (.ref f3))) (l3 : K.lookup f3 = some ⟨oc3, od3, .func (PySem.W.fnOf "_law_fill" "_law_fill" (defArgs s_law_fill) (defBody s_law_fill) (defScope s_law_fill) .none kV3 dc3 pm3 an3 cd3 ct3), sl3⟩) (c3 : PySem.W.codeIn K cd3 "_law_fill" = true) (k3 : PySem.W.keepIn K (.ref f3) = true)
    (a4 : PySem.W.nsIn K mainGlobals "_law_size" = some (some (.ref f4))) (l4 : K.lookup f4 = some ⟨oc4, od4, .func (PySem.W.fnOf "_law_size" "_law_size" (defArgs s_law_size) (defBody s_law_size) (defScope s_law_size) .none kV4 dc4 pm4 an4 cd4 ct4), sl4⟩) (c4 : PySem.W.codeIn K cd4 "_law_size" = true) (k4 : PySem.W.keepIn K (.ref f4) = true)
    (a5 : PySem.W.nsIn K mainGlobals "_law_lacking" = some (some (.ref f5))) (l5 : K.lookup f5 = some ⟨oc5, od5, .func (PySem.W.fnOf "_law_lacking" "_law_lacking" (defArgs s_law_lacking) (defBody s_law_lacking) (defScope s_law_lacking) .none kV5 dc5 pm5 an5 cd5 ct5), sl5⟩) (c5 : PySem.W.codeIn K cd5 "_law_lacking" = true) (k5 : PySem.W.keepIn K (.ref f5) = true)
    (a6 : PySem.W.nsIn K mainGlobals "_law_letters" = some (some (.ref f6))) (l6 : K.lookup f6 = some ⟨oc6, od6, .func (PySem.W.fnOf "_law_letters" "_law_letters" (defArgs s_law_letters) (defBody s_law_letters) (defScope s_law_letters) .none kV6 dc6 pm6 an6 cd6 ct6), sl6⟩) (c6 : PySem.W.codeIn K cd6 "_law_letters" = true) (k6 : PySem.W.keepIn K (.ref f6) = true)
    (a7 : PySem.W.nsIn K mainGlobals "pads_of" = some (some (.ref f7))) (l7 : K.lookup f7 = some ⟨oc7, od7, .func (PySem.W.fnOf "pads_of" "pads_of" (defArgs s_pads_of) (defBody s_pads_of) (defScope s_pads_of) .none kV7 dc7 pm7 an7 cd7 ct7), sl7⟩) (c7 : PySem.W.codeIn K cd7 "pads_of" = true) (k7 : PySem.W.keepIn K (.ref f7) = true)
    (a8 : PySem.W.nsIn K mainGlobals "padded" = some (some (.ref f8))) (l8 : K.lookup f8 = some ⟨oc8, od8, .func (PySem.W.fnOf "padded" "padded" (defArgs s_padded) (defBody s_padded) (defScope s_padded) .none kV8 dc8 pm8 an8 cd8 ct8), sl8⟩) (c8 : PySem.W.codeIn K cd8 "padded" = true) (k8 : PySem.W.keepIn K (.ref f8) = true)
    (a9 : PySem.W.nsIn K mainGlobals "stripped" = some (some (.ref f9))) (l9 : K.lookup f9 = some ⟨oc9, od9, .func (PySem.W.fnOf "stripped" "stripped" (defArgs s_stripped) (defBody s_stripped) (defScope s_stripped) .none kV9 dc9 pm9 an9 cd9 ct9), sl9⟩) (c9 : PySem.W.codeIn K cd9 "stripped" = true) (k9 : PySem.W.keepIn K (.ref f9) = true)
    (a10 : PySem.W.nsIn K mainGlobals "_law_all_texts" = some (some (.ref f10))) (l10 : K.lookup f10 = some ⟨oc10, od10, .func (PySem.W.fnOf "_law_all_texts" "_law_all_texts" (defArgs s_law_all_texts) (defBody s_law_all_texts) (defScope s_law_all_texts) .none kV10 dc10 pm10 an10 cd10 ct10), sl10⟩) (c10 : PySem.W.codeIn K cd10 "_law_all_texts" = true) (k10 : PySem.W.keepIn K (.ref f10) = true)
    (a11 : PySem.W.nsIn K mainGlobals "stripped_inside" = some (some (.ref f11))) (l11 : K.lookup f11 = some ⟨oc11, od11, .func (PySem.W.fnOf "stripped_inside" "stripped_inside" (defArgs s_stripped_inside) (defBody s_stripped_inside) (defScope s_stripped_inside) .none kV11 dc11 pm11 an11 cd11 ct11), sl11⟩) (c11 : PySem.W.codeIn K cd11 "stripped_inside" = true) (k11 : PySem.W.keepIn K (.ref f11) = true)
    (a12 : PySem.W.nsIn K mainGlobals "_law_fills_ahead" = some (some (.ref f12))) (l12 : K.lookup f12 = some ⟨oc12, od12, .func (PySem.W.fnOf "_law_fills_ahead" "_law_fills_ahead" (defArgs s_law_fills_ahead) (defBody s_law_fills_ahead) (defScope s_law_fills_ahead) .none kV12 dc12 pm12 an12 cd12 ct12), sl12⟩) (c12 : PySem.W.codeIn K cd12 "_law_fills_ahead" = true) (k12 : PySem.W.keepIn K (.ref f12) = true)
    (a13 : PySem.W.nsIn K mainGlobals "_law_just_those" = some (some (.ref f13))) (l13 : K.lookup f13 = some ⟨oc13, od13, .func (PySem.W.fnOf "_law_just_those" "_law_just_those" (defArgs s_law_just_those) (defBody s_law_just_those) (defScope s_law_just_those) .none kV13 dc13 pm13 an13 cd13 ct13), sl13⟩) (c13 : PySem.W.codeIn K cd13 "_law_just_those" = true) (k13 : PySem.W.keepIn K (.ref f13) = true)
    (a14 : PySem.W.nsIn K mainGlobals "_law_just_rests" = some (some (.ref f14))) (l14 : K.lookup f14 = some ⟨oc14, od14, .func (PySem.W.fnOf "_law_just_rests" "_law_just_rests" (defArgs s_law_just_rests) (defBody s_law_just_rests) (defScope s_law_just_rests) .none kV14 dc14 pm14 an14 cd14 ct14), sl14⟩) (c14 : PySem.W.codeIn K cd14 "_law_just_rests" = true) (k14 : PySem.W.keepIn K (.ref f14) = true)
    (a15 : PySem.W.nsIn K mainGlobals "law" = some (some (.ref f15))) (l15 : K.lookup f15 = some ⟨oc15, od15, .func (PySem.W.fnOf "law" "law" (defArgs s_law) (defBody s_law) (defScope s_law) .none kV15 dc15 pm15 an15 cd15 ct15), sl15⟩) (c15 : PySem.W.codeIn K cd15 "law" = true) (k15 : PySem.W.keepIn K (.ref f15) = true)
    (z_len : PySem.W.nsIn K mainGlobals "len" = some none) (z_range : PySem.W.nsIn K mainGlobals "range" = some none) (z_max : PySem.W.nsIn K mainGlobals "max" = some none) (z_isinstance : PySem.W.nsIn K mainGlobals "isinstance" = some none) (z_list : PySem.W.nsIn K mainGlobals "list" = some none) (z_str : PySem.W.nsIn K mainGlobals "str" = some none) (z_int : PySem.W.nsIn K mainGlobals "int" = some none)  :
    ∃ fd : FuncData, (∀ (s : Shared) (v : Value), BindsTo s fd ⟨[v], []⟩ [("_law_script", v)]) ∧ ∀ base : Heap, K.In base → base.Ns mainGlobals mg → FnOk l.prog w K mg base CX0 5 fa fd ["_law_script"] (sp_law K) := by
  have e := hfa.symm.trans (PySem.W.mg_of X G a15)
  cases e
  have B : Blt mg := ⟨PySem.W.mg_none_of X G z_len, PySem.W.mg_none_of X G z_range, PySem.W.mg_none_of X G z_max, PySem.W.mg_none_of X G z_isinstance, PySem.W.mg_none_of X G z_list, PySem.W.mg_none_of X G z_str, PySem.W.mg_none_of X G z_int⟩
  refine ⟨PySem.W.fnOf "law" "law" (defArgs s_law) (defBody s_law) (defScope s_law) .none kV15 dc15 pm15 an15 cd15 ct15, fun s v => .of_eq rfl, fun base _ _ => ?_⟩
  have F0 := fun_mk (st := s_law_cell_at) l0 c0 k0
  have H_law_cell_at : Has l.prog w K mg base "_law_cell_at" 1 ["_law_script", "_law_k"] (sp_law_cell_at K) := ⟨_, _, ok_law_cell_at F0 B   , PySem.W.mg_of X G a0, k0, F0.binds fun _ _ _ _ _ _ us hl => match us, hl with | [_, _], _ => rfl⟩
  have F1 := fun_mk (st := s_law_pick) l1 c1 k1
  have H_law_pick : Has l.prog w K mg base "_law_pick" 1 ["_law_cell", "_law_salt", "_law_many"] (sp_law_pick K) := ⟨_, _, ok_law_pick F1 B   , PySem.W.mg_of X G a1, k1, F1.binds fun _ _ _ _ _ _ us hl => match us, hl with | [_, _, _], _ => rfl⟩
  have F2 := fun_mk (st := s_law_sign) l2 c2 k2
  have H_law_sign : Has l.prog w K mg base "_law_sign" 1 ["_law_number"] (sp_law_sign K) := ⟨_, _, ok_law_sign F2 B   , PySem.W.mg_of X G a2, k2, F2.binds fun _ _ _ _ _ _ us hl => match us, hl with | [_], _ => rfl⟩
  have F3 := fun_mk (st := s_law_fill) l3 c3 k3
  have H_law_fill : Has l.prog w K mg base "_law_fill" 2 ["_law_cell"] (sp_law_fill K) := ⟨_, _, ok_law_fill F3 B H_law_sign  , PySem.W.mg_of X G a3, k3, F3.binds fun _ _ _ _ _ _ us hl => match us, hl with | [_], _ => rfl⟩
  have F4 := fun_mk (st := s_law_size) l4 c4 k4
  have H_law_size : Has l.prog w K mg base "_law_size" 2 ["_law_cell", "_law_turn"] (sp_law_size K) := ⟨_, _, ok_law_size F4 B H_law_pick  , PySem.W.mg_of X G a4, k4, F4.binds fun _ _ _ _ _ _ us hl => match us, hl with | [_, _], _ => rfl⟩
  have F5 := fun_mk (st := s_law_lacking) l5 c5 k5
  have H_law_lacking : Has l.prog w K mg base "_law_lacking" 1 ["_law_size_here", "_law_width"] (sp_law_lacking K) := ⟨_, _, ok_law_lacking F5 B   , PySem.W.mg_of X G a5, k5, F5.binds fun _ _ _ _ _ _ us hl => match us, hl with | [_, _], _ => rfl⟩
  have F6 := fun_mk (st := s_law_letters) l6 c6 k6
  have H_law_letters : Has l.prog w K mg base "_law_letters" 2 ["_law_cell", "_law_turn", "_law_size_here", "_law_fill_here"] (sp_law_letters K) := ⟨_, _, ok_law_letters F6 B H_law_sign H_law_pick  , PySem.W.mg_of X G a6, k6, F6.binds fun _ _ _ _ _ _ us hl => match us, hl with | [_, _, _, _], _ => rfl⟩
  have F7 := fun_mk (st := s_pads_of) l7 c7 k7
  have H_pads_of : Has l.prog w K mg base "pads_of" 1 ["length", "width", "side"] (sp_pads_of K) := ⟨_, _, ok_pads_of F7 B   , PySem.W.mg_of X G a7, k7, F7.binds fun _ _ _ _ _ _ us hl => match us, hl with | [_, _, _], _ => rfl⟩
  have F8 := fun_mk (st := s_padded) l8 c8 k8
  have H_padded : Has l.prog w K mg base "padded" 2 ["text", "width", "fill", "side"] (sp_padded K) := ⟨_, _, ok_padded F8 B H_pads_of  , PySem.W.mg_of X G a8, k8, F8.binds fun _ _ _ _ _ _ us hl => match us, hl with | [_, _, _, _], _ => rfl⟩
  have F9 := fun_mk (st := s_stripped) l9 c9 k9
  have H_stripped : Has l.prog w K mg base "stripped" 3 ["text", "width", "fill", "side"] (sp_stripped K) := ⟨_, _, ok_stripped F9 B H_pads_of H_padded  , PySem.W.mg_of X G a9, k9, F9.binds fun _ _ _ _ _ _ us hl => match us, hl with | [_, _, _, _], _ => rfl⟩
  have F10 := fun_mk (st := s_law_all_texts) l10 c10 k10
  have H_law_all_texts : Has l.prog w K mg base "_law_all_texts" 1 ["_law_found"] (sp_law_all_texts K) := ⟨_, _, ok_law_all_texts F10 B   , PySem.W.mg_of X G a10, k10, F10.binds fun _ _ _ _ _ _ us hl => match us, hl with | [_], _ => rfl⟩
  have F11 := fun_mk (st := s_stripped_inside) l11 c11 k11
  have H_stripped_inside : Has l.prog w K mg base "stripped_inside" 4 ["text", "lead", "width", "fill"] (sp_stripped_inside K) := ⟨_, _, ok_stripped_inside F11 B H_stripped  , PySem.W.mg_of X G a11, k11, F11.binds fun _ _ _ _ _ _ us hl => match us, hl with | [_, _, _, _], _ => rfl⟩
  have F12 := fun_mk (st := s_law_fills_ahead) l12 c12 k12
  have H_law_fills_ahead : Has l.prog w K mg base "_law_fills_ahead" 1 ["_law_text", "_law_fill_here"] (sp_law_fills_ahead K) := ⟨_, _, ok_law_fills_ahead F12 B   , PySem.W.mg_of X G a12, k12, F12.binds fun _ _ _ _ _ _ us hl => match us, hl with | [_, _], _ => rfl⟩
  have F13 := fun_mk (st := s_law_just_those) l13 c13 k13
  have H_law_just_those : Has l.prog w K mg base "_law_just_those" 2 ["_law_text", "_law_width", "_law_fill_here", "_law_side"] (sp_law_just_those K) := ⟨_, _, ok_law_just_those F13 B H_law_fills_ahead  , PySem.W.mg_of X G a13, k13, F13.binds fun _ _ _ _ _ _ us hl => match us, hl with | [_, _, _, _], _ => rfl⟩
  have F14 := fun_mk (st := s_law_just_rests) l14 c14 k14
  have H_law_just_rests : Has l.prog w K mg base "_law_just_rests" 2 ["_law_text", "_law_lead", "_law_width", "_law_fill_here"] (sp_law_just_rests K) := ⟨_, _, ok_law_just_rests F14 B H_law_fills_ahead  , PySem.W.mg_of X G a14, k14, F14.binds fun _ _ _ _ _ _ us hl => match us, hl with | [_, _, _, _], _ => rfl⟩
  have F15 := fun_mk (st := s_law) l15 c15 k15
  exact ok_law F15 B H_law_cell_at H_law_fill H_law_pick H_law_letters H_stripped H_stripped_inside H_law_just_rests H_law_size H_law_all_texts H_law_just_those  
theorem walk {l : PySem.W.OpenLaw} {q : Program} {loose : List Str} {XP : (Str → Option Value) → Heap → Prop} {YP : World → Heap → Prop} {d : DefRec} {K : Params → PySem.W.Frag} (hn : l.most = some 63) (hdf : d.params.defaults = [])
    (hY : ∀ (w : World) (h : Heap), YP w h → (K w.params).In h)
    (F : ∀ (w : World) (mg : Str → Option Value) (fa : Addr) (h : Heap), (K w.params).In h → h.Ns mainGlobals mg → mg d.name = some (.ref fa) →
      ∃ fd : FuncData, (∀ (s : Shared) (u : Value), BindsTo s fd ⟨[u], []⟩ [("_law_script", u)]) ∧ ∀ base : Heap, (K w.params).In base → base.Ns mainGlobals mg → FnOk l.prog w (K w.params) mg base CX0 5 fa fd ["_law_script"] (sp_law (K w.params))) :
    PySem.W.WalkO q loose XP YP l.row.toRowW d [] (fun f vs => PySem.call f vs) :=
  L2.walk_of (n := 63) (k := 5) (x := "_law_script") (CX := fun _ => CX0) (sp := fun w => sp_law (K w.params)) hn (by decide) hdf ⟨rfl, by decide, by decide⟩ hY F (fun _ _ a ns hl _ hS => ⟨a, ns, rfl, hS, hl, fun _ => rfl⟩) fun _ _ _ _ _ z => z
end Pw
open PySem PySem.W PyProof.Rows
set_option maxRecDepth 100000 in
set_option maxHeartbeats 0 in
theorem PySem.Challenge.cw_padwright_k34_whole_just_those_holds : PySem.Challenge.rw_padwright_k34_whole_just_those.Holds := by
  w_on; o_law; k_head; (case hw => w_witness2)
  k_fill
  refine Pw.walk (l := PySem.Challenge.rw_padwright_k34_whole_just_those) rfl rfl (fun w h Y => PySem.W.kIn_of Y) ?F
  case F =>
    intro w mg fa h KX G hmg
    refine' Pw.all_mk KX G hmg ?a0 ?l0 ?c0 ?k0 ?a1 ?l1 ?c1 ?k1 ?a2 ?l2 ?c2 ?k2 ?a3 ?l3 ?c3 ?k3 ?a4 ?l4 ?c4 ?k4 ?a5 ?l5 ?c5 ?k5 ?a6 ?l6 ?c6 ?k6 ?a7 ?l7 ?c7 ?k7 ?a8 ?l8 ?c8 ?k8 ?a9 ?l9 ?c9 ?k9 ?a10 ?l10 ?c10 ?k10 ?a11 ?l11 ?c11 ?k11 ?a12 ?l12 ?c12 ?k12 ?a13 ?l13 ?c13 ?k13 ?a14 ?l14 ?c14 ?k14 ?a15 ?l15 ?c15 ?k15 ?z_len ?z_range ?z_max ?z_isinstance ?z_list ?z_str ?z_int 
    (case a0 => k_is); (case l0 => k_is); (case c0 => k_is); (case k0 => k_is)
    (case a1 => k_is); (case l1 => k_is); (case c1 => k_is); (case k1 => k_is)
    (case a2 => k_is); (case l2 => k_is); (case c2 => k_is); (case k2 => k_is)
    (case a3 => k_is); (case l3 => k_is); (case c3 => k_is); (case k3 => k_is)
    (case a4 => k_is); (case l4 => k_is); (case c4 => k_is); (case k4 => k_is)
    (case a5 => k_is); (case l5 => k_is); (case c5 => k_is); (case k5 => k_is)
    (case a6 => k_is); (case l6 => k_is); (case c6 => k_is); (case k6 => k_is)
    (case a7 => k_is); (case l7 => k_is); (case c7 => k_is); (case k7 => k_is)
    (case a8 => k_is); (case l8 => k_is); (case c8 => k_is); (case k8 => k_is)
    (case a9 => k_is); (case l9 => k_is); (case c9 => k_is); (case k9 => k_is)
    (case a10 => k_is); (case l10 => k_is); (case c10 => k_is); (case k10 => k_is)
    (case a11 => k_is); (case l11 => k_is); (case c11 => k_is); (case k11 => k_is)
    (case a12 => k_is); (case l12 => k_is); (case c12 => k_is); (case k12 => k_is)
    (case a13 => k_is); (case l13 => k_is); (case c13 => k_is); (case k13 => k_is)
    (case a14 => k_is); (case l14 => k_is); (case c14 => k_is); (case k14 => k_is)
    (case a15 => k_is); (case l15 => k_is); (case c15 => k_is); (case k15 => k_is)
    (case z_len => k_is)
    (case z_range => k_is)
    (case z_max => k_is)
    (case z_isinstance => k_is)
    (case z_list => k_is)
    (case z_str => k_is)
    (case z_int => k_is)

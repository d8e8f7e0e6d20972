import PyProof.Rows.All
import Wide.All
import OpenK.AllK
import Wide.FinOn
import Lean
import PyProof.EqAt
import PyProof.EqKinds
import PyProof.TupleCall
import PyProof.NeKinds
import KE.KTryMore
import PyProof.Rows.CatchOwn
import PyProof.ExcAttrAll.ValueError
import PyProof.NeData
import PyProof.InstStoreFacts
import PyProof.ExcInit
import PyProof.Rows.FStr
import PySem.Challenge.RW_padwright_k19_refusals_with_fields
set_option Elab.async false
set_option linter.all false
set_option maxRecDepth 100000
namespace L2
open PySem PySem.Spec PyProof.Rows
abbrev Key := Sum Int Str
def keyIs : Key → Value → Bool
  | .inl k, v => Value.isInt k v
  | .inr x, v => Value.isStrOf x v
def keyH (w : World) : Key → Int
  | .inl k => hashInt k
  | .inr x => hashStr w x
theorem keyIs_shape : ∀ {k : Key} {v : Value}, keyIs k v = true → (∃ i t, k = Sum.inl i ∧ v = Value.int i t) ∨ (∃ x t, k = Sum.inr x ∧ v = Value.str x t)
  | .inl i, v, h => by
    obtain ⟨t, e⟩ := Value.isInt_shape (k := i) (v := v) h
    exact .inl ⟨i, t, rfl, e⟩
  | .inr x, v, h => by
    obtain ⟨t, e⟩ := Value.isStrOf_shape (x := x) (v := v) h
    exact .inr ⟨x, t, rfl, e⟩
theorem key_ll (a b : Int) : decide ((Sum.inl a : Key) = Sum.inl b) = (a == b) := by
  by_cases e : a = b
  · subst e; simp
  · have h : ¬ (Sum.inl a : Key) = Sum.inl b := fun q => e (Sum.inl.inj q)
    rw [decide_eq_false h]
    exact (beq_eq_false_iff_ne.mpr e).symm
theorem key_rr (a b : Str) : decide ((Sum.inr a : Key) = Sum.inr b) = decide (a = b) := by
  by_cases e : a = b
  · subst e; simp
  · have h : ¬ (Sum.inr a : Key) = Sum.inr b := fun q => e (Sum.inr.inj q)
    rw [decide_eq_false h, decide_eq_false e]
theorem key_lr (a : Int) (b : Str) : decide ((Sum.inl a : Key) = Sum.inr b) = false := decide_eq_false (fun q => nomatch q)
theorem key_rl (a : Str) (b : Int) : decide ((Sum.inr a : Key) = Sum.inl b) = false := decide_eq_false (fun q => nomatch q)
def mixKind (prog : Program) (w : World) : PySem.KeyKind prog w Key where
  is := keyIs
  hash := keyH w
  inj := fun v a b ha hb => by
    rcases keyIs_shape ha with ⟨i, t, rfl, rfl⟩ | ⟨x, t, rfl, rfl⟩
    · rcases keyIs_shape hb with ⟨j, u, rfl, e⟩ | ⟨y, u, rfl, e⟩
      · injection e with e1 _; rw [e1]
      · exact nomatch e
    · rcases keyIs_shape hb with ⟨j, u, rfl, e⟩ | ⟨y, u, rfl, e⟩
      · exact nomatch e
      · injection e with e1 _; rw [e1]
  byValue := fun k v h => by
    rcases keyIs_shape h with ⟨i, t, rfl, rfl⟩ | ⟨x, t, rfl, rfl⟩ <;> rfl
  pyHash := fun hv h => by
    rcases keyIs_shape hv with ⟨i, t, rfl, rfl⟩ | ⟨x, t, rfl, rfl⟩
    · exact wpAny_pyHash_int h
    · exact wpAny_pyHash_str h
  eqBool := fun hu hv h => by
    rcases keyIs_shape hu with ⟨i, t, rfl, rfl⟩ | ⟨x, t, rfl, rfl⟩
    · rcases keyIs_shape hv with ⟨j, u, rfl, rfl⟩ | ⟨y, u, rfl, rfl⟩
      · rw [key_ll] at h; exact wpAny_eqBool_int h
      · rw [key_lr] at h; exact SeqAt.EqAt.int_str i t y u _ _ _ _ h
    · rcases keyIs_shape hv with ⟨j, u, rfl, rfl⟩ | ⟨y, u, rfl, rfl⟩
      · rw [key_rl] at h; exact SeqAt.EqAt.str_int x t j u _ _ _ _ h
      · rw [key_rr] at h; exact wpAny_eqBool_str h
  «strs» := fun k x t v h => by
    rcases keyIs_shape h with ⟨i, u, rfl, e⟩ | ⟨y, u, rfl, e⟩
    · exact nomatch e
    · injection e with e1 _
      subst e1
      cases v <;> rfl
end L2
namespace L2
open PySem PySem.Spec PyProof.Rows
inductive V where
  | non | bl (b : Bool) | int (i : Int) | str (x : Str) | byt (b : Array UInt8) | flt (b : UInt64) | ref (a : Addr) | ty (n : String)
  deriving DecidableEq
def RelV : V → Value → Prop
  | .non, u => u = Value.none
  | .bl b, u => u = Value.bool b
  | .int i, u => ∃ t, u = Value.int i t
  | .str x, u => ∃ t, u = Value.str x t
  | .byt b, u => ∃ t, u = Value.bytes b t
  | .flt b, u => ∃ t, u = Value.float b t
  | .ref a, u => u = Value.ref a
  | .ty n, u => u = Value.type n
abbrev Vals : List V → List Value → Prop := Paired RelV
theorem Vals.length {xs : List V} {us : List Value} (r : Vals xs us) : xs.length = us.length := Paired.length r
theorem Vals.get : ∀ {xs : List V} {us : List Value} {i : Nat} {x : V}, Vals xs us → xs[i]? = some x → ∃ u, us[i]? = some u ∧ RelV x u
  | _, _, _, _, .nil, e => by simp at e
  | _, _, 0, _, .cons r _, e => by simp at e; subst e; exact ⟨_, rfl, r⟩
  | _, _, i + 1, x, .cons _ t, e => by
    obtain ⟨u, h1, h2⟩ := Vals.get (i := i) (x := x) t (by simpa using e)
    exact ⟨u, by simpa using h1, h2⟩
theorem Vals.set {x : V} {u : Value} (r : RelV x u) : ∀ {xs : List V} {us : List Value} (i : Nat), Vals xs us → Vals (xs.set i x) (us.set i u)
  | _, _, _, .nil => .nil
  | _, _, 0, .cons _ t => .cons r t
  | _, _, i + 1, .cons q t => .cons q (Vals.set r i t)
theorem Vals.append : ∀ {xs ys : List V} {us ws : List Value}, Vals xs us → Vals ys ws → Vals (xs ++ ys) (us ++ ws)
  | _, _, _, _, .nil, s => s
  | _, _, _, _, .cons r t, s => .cons r (Vals.append t s)
theorem Vals.take : ∀ {xs : List V} {us : List Value} (n : Nat), Vals xs us → Vals (xs.take n) (us.take n)
  | _, _, 0, _ => .nil
  | _, _, _ + 1, .nil => .nil
  | _, _, n + 1, .cons r t => .cons r (Vals.take n t)
theorem Vals.drop : ∀ {xs : List V} {us : List Value} (n : Nat), Vals xs us → Vals (xs.drop n) (us.drop n)
  | _, _, 0, r => r
  | _, _, _ + 1, .nil => .nil
  | _, _, n + 1, .cons _ t => Vals.drop n t
def RelO : Option V → Option Value → Prop
  | some v, some u => RelV v u
  | none, none => True
  | _, _ => False
def KV {κ : Type} : List (κ × V) → List (κ × Value) → Prop := Paired fun (p : κ × V) (q : κ × Value) => p.1 = q.1 ∧ RelV p.2 q.2
def kV : Key → V
  | .inl i => .int i
  | .inr x => .str x
inductive HO where
  | lst (xs : List V)
  | tup (xs : List V)
  | dK (kvs : List (Key × V)) | dT (kvs : List (List Key × V))
  | set (S : Int → Bool) (n : Nat)
  | ins (C dx : Addr) (fs : List (Str × V))
  | own (x : Addr)
  | xd (fs : List (Str × V))
  | met (f x : Addr)
  | rng (lo hi : Int)
  | frz (o : Obj) (u : HO)
  | tbl (ps : Array Value)
  | ext (φ : Heap → Prop)
abbrev Hp := Addr → Option HO
def upd (H : Hp) (a : Addr) (o : HO) : Hp := fun b => if b = a then some o else H b
theorem upd_same {H : Hp} {a : Addr} {o : HO} : upd H a o a = some o := by unfold upd; rw [if_pos rfl]
theorem upd_ne {H : Hp} {a b : Addr} {o : HO} (h : b ≠ a) : upd H a o b = H b := by unfold upd; rw [if_neg h]
theorem ne_of_none {H : Hp} {a b : Addr} {o : HO} (h : H a = some o) (h' : H b = none) : a ≠ b := by
  intro e; subst e; rw [h] at h'; cases h'
section
variable (P : Program) (w : World)
def ObjOk (H : Hp) (h : Heap) (a : Addr) : HO → Prop
  | .lst xs => xs.length ≤ sizeLine ∧ ∃ (its : List Value) (n : Nat), Vals xs its ∧ h.get? a = some { cls := .type "list", data := .seq its.toArray n }
  | .tup xs => xs.length ≤ sizeLine ∧ ∃ its : List Value, Vals xs its ∧ IsTup h a its.toArray
  | .dK kvs => kvs.length ≤ sizeLine ∧ (a == sysModules) = false ∧ ∃ vs, KV kvs vs ∧ h.DictOf (mixKind P w) a vs
  | .dT kvs => kvs.length ≤ sizeLine ∧ (a == sysModules) = false ∧ ∃ xs : List (List Key × Addr × Value),
      Paired (fun (p : List Key × V) (q : List Key × Addr × Value) => p.1 = q.1 ∧ H q.2.1 = some (.tup (p.1.map kV)) ∧ RelV p.2 q.2.2) kvs xs ∧
      ∃ o es ep, h.get? a = some o ∧ o.ExactDict ∧ o.data = .dict es ep ∧ es.toList = xs.map (entryOfKey (tupleKind (mixKind P w))) ∧ (xs.map (·.1)).Nodup
  | .set S n => h.SetOf (intKind P w) a S n
  | .ins C dx fs => H dx = some (.own a) ∧ fs.length ≤ 1000 ∧ dx ≠ a ∧ h.get? a = some (PySem.W.instObj C dx) ∧
      ∃ mA, h.Ns1 dx mA ∧ (∀ f, RelO (fs.lookup f) (mA f)) ∧ PySem.Within mA (fs.map (·.1))
  | .own _ => ∃ o, h.get? a = some o
  | .xd fs => ∃ mA, h.Ns1 a mA ∧ ∀ f, RelO (fs.lookup f) (mA f)
  | .rng lo hi => ∃ t u v, h.get? a = some { cls := .type "range", data := .fields #[.int lo t, .int hi u, .int 1 v] }
  | .frz o u => h.get? a = some o ∧ ObjOk H h a u
  | .tbl ps => h.get? a = some { cls := .none, data := .fields ps }
  | .met f x => h.get? a = some (PySem.W.methodObj (.ref f) (.ref x))
  | .ext φ => φ h ∧ (∃ o, h.get? a = some o) ∧ ∀ h1 h2 : Heap, φ h1 → (∀ o, h1.get? a = some o → h2.get? a = some o) → φ h2
def HOk (H : Hp) (h : Heap) : Prop := ∀ a o, H a = some o → ObjOk P w H h a o
end
section
variable {P : Program} {w : World} {H H' : Hp} {h h' : Heap} {a : Addr} {o : HO}
theorem ObjOk.lt (x : ObjOk P w H h a o) : a < h.objs.size := by
  cases o with
  | lst xs => obtain ⟨_, _, _, _, e⟩ := x; exact Heap.lt_size e
  | tup xs => obtain ⟨_, _, _, p⟩ := x; exact p.lt
  | dK kvs => obtain ⟨_, _, _, _, o, _, _, e, _⟩ := x; exact Heap.lt_size e
  | dT kvs => obtain ⟨_, _, _, _, o, _, _, e, _⟩ := x; exact Heap.lt_size e
  | set S n => obtain ⟨o, _, _, _, e, _⟩ := x; exact Heap.lt_size e
  | ins C dx fs => obtain ⟨_, _, _, e, _⟩ := x; exact Heap.lt_size e
  | own y => obtain ⟨_, e⟩ := x; exact Heap.lt_size e
  | xd fs => obtain ⟨_, ⟨_, _, _, e, _⟩, _⟩ := x; exact Heap.lt_size e
  | rng lo hi => obtain ⟨_, _, _, e⟩ := x; exact Heap.lt_size e
  | frz ob u => obtain ⟨e, _⟩ := x; exact Heap.lt_size e
  | tbl ps => exact Heap.lt_size (show h.get? a = some _ from x)
  | met f y => exact Heap.lt_size (show h.get? a = some _ from x)
  | ext φ => obtain ⟨_, ⟨_, e⟩, _⟩ := x; exact Heap.lt_size e
theorem Paired.mapP {α β : Type} {F G : α → β → Prop} : ∀ {l₁ : List α} {l₂ : List β}, Paired F l₁ l₂ → (∀ a b, F a b → G a b) → Paired G l₁ l₂
  | _, _, .nil, _ => .nil
  | _, _, .cons r t, f => .cons (f _ _ r) (Paired.mapP t f)
theorem ObjOk.stay (x : ObjOk P w H h a o) (k : ∀ b u, (b = a ∨ H b = some (.own a)) → h.get? b = some u → h'.get? b = some u)
    (ho : ∀ b, H b = some (.own a) → H' b = some (.own a)) (ht : ∀ b xs, H b = some (.tup xs) → H' b = some (.tup xs)) : ObjOk P w H' h' a o := by
  induction o with
  | lst xs => obtain ⟨z, its, n, r, e⟩ := x; exact ⟨z, its, n, r, k _ _ (.inl rfl) e⟩
  | tup xs => obtain ⟨z, its, r, ob, e, c⟩ := x; exact ⟨z, its, r, ob, k _ _ (.inl rfl) e, c⟩
  | dK kvs => obtain ⟨z, y, vs, r, ob, es, ep, e, c⟩ := x; exact ⟨z, y, vs, r, ob, es, ep, k _ _ (.inl rfl) e, c⟩
  | dT kvs =>
    obtain ⟨z, y, xs, r, ob, es, ep, e, c⟩ := x
    exact ⟨z, y, xs, Paired.mapP r fun p q z => ⟨z.1, ht _ _ z.2.1, z.2.2⟩, ob, es, ep, k _ _ (.inl rfl) e, c⟩
  | set S n => obtain ⟨ob, es, ep, t, e, c⟩ := x; exact ⟨ob, es, ep, t, k _ _ (.inl rfl) e, c⟩
  | ins C dx fs =>
    obtain ⟨d, z, ne, e, mA, ⟨od, es, ep, e2, c⟩, r⟩ := x
    exact ⟨ho _ d, z, ne, k _ _ (.inl rfl) e, mA, ⟨od, es, ep, k _ _ (.inr d) e2, c⟩, r⟩
  | own y => obtain ⟨ob, e⟩ := x; exact ⟨ob, k _ _ (.inl rfl) e⟩
  | xd fs => obtain ⟨mA, ⟨od, es, ep, e, c⟩, r⟩ := x; exact ⟨mA, ⟨od, es, ep, k _ _ (.inl rfl) e, c⟩, r⟩
  | rng lo hi => obtain ⟨t, u, v, e⟩ := x; exact ⟨t, u, v, k _ _ (.inl rfl) e⟩
  | frz ob u ih => obtain ⟨e, q⟩ := x; exact ⟨k _ _ (.inl rfl) e, ih q⟩
  | tbl ps =>
    have e : h.get? a = some { cls := .none, data := .fields ps } := x
    show h'.get? a = some { cls := .none, data := .fields ps }
    exact k a _ (.inl rfl) e
  | met f y =>
    have e : h.get? a = some (PySem.W.methodObj (.ref f) (.ref y)) := x
    show h'.get? a = some (PySem.W.methodObj (.ref f) (.ref y))
    exact k a _ (.inl rfl) e
  | ext φ => obtain ⟨p, ⟨o, e⟩, st⟩ := x; exact ⟨st _ _ p fun o q => k _ _ (.inl rfl) q, ⟨o, k _ _ (.inl rfl) e⟩, st⟩
theorem HOk.lt (x : HOk P w H h) (e : H a = some o) : a < h.objs.size := (x a o e).lt
theorem HOk.fresh (x : HOk P w H h) (e : h.objs.size ≤ a) : H a = none := by
  cases q : H a with
  | none => rfl
  | some u => exact absurd (Nat.lt_of_lt_of_le (x.lt q) e) (Nat.lt_irrefl _)
theorem HOk.kept (x : HOk P w H h) (k : ∀ b u, h.get? b = some u → h'.get? b = some u) : HOk P w H h' := fun a o e =>
  (x a o e).stay (fun b u _ q => k b u q) (fun _ q => q) fun _ _ q => q
theorem HOk.laid (x : HOk P w H h) (k : ∀ b u, h.get? b = some u → h'.get? b = some u) (hp : h.objs.size ≤ a) (new : ObjOk P w (upd H a o) h' a o) : HOk P w (upd H a o) h' := fun b u e => by
  have hn := x.fresh hp
  by_cases hb : b = a
  · subst hb; rw [upd_same] at e; cases e; exact new
  · rw [upd_ne hb] at e
    exact (x b u e).stay (fun c v _ q => k c v q) (fun c q => by rw [upd_ne (ne_of_none q hn)]; exact q) fun c xs q => by rw [upd_ne (ne_of_none q hn)]; exact q
end
def Rd (H : Hp) (a : Addr) (u : HO) : Prop := H a = some u ∨ ∃ o, H a = some (.frz o u)
theorem Rd.of {H : Hp} {a : Addr} {u : HO} (h : H a = some u) : Rd H a u := .inl h
theorem Rd.ok {P : Program} {w : World} {H : Hp} {h : Heap} {a : Addr} {u : HO} (r : Rd H a u) (x : HOk P w H h) : ObjOk P w H h a u := by
  rcases r with r | ⟨o, r⟩
  · exact x a u r
  · obtain ⟨_, q⟩ := x a _ r
    exact q
def Mut : Option HO → Prop
  | some (.lst _) => True
  | some (.dK _) => True
  | some (.dT _) => True
  | some (.set _ _) => True
  | some (.ins _ _ _) => True
  | some (.ext _) => True
  | _ => False
section
variable {P : Program} {w : World} {H : Hp} {h h' : Heap} {x e : Addr} {o' : HO}
theorem HOk.write (ok : HOk P w H h) (mu : Mut (H x)) (he : e = x ∨ H e = some (.own x)) (k : ∀ b u, b ≠ e → h.get? b = some u → h'.get? b = some u) (heo : ∃ u, h'.get? e = some u)
    (new : ObjOk P w (upd H x o') h' x o') : HOk P w (upd H x o') h' := fun b u q => by
  have nown : ∀ c y, H c = some (.own y) → c ≠ x := fun c y r z => by subst z; rw [r] at mu; exact mu
  have ntup : ∀ c xs, H c = some (.tup xs) → c ≠ x := fun c xs r z => by subst z; rw [r] at mu; exact mu
  by_cases hb : b = x
  · subst hb; rw [upd_same] at q; cases q; exact new
  · rw [upd_ne hb] at q
    by_cases hbe : b = e
    · have q' : H b = some (.own x) := by
        rcases he with z | z
        · exact absurd (hbe.trans z) hb
        · rw [hbe]; exact z
      rw [q] at q'; cases q'
      obtain ⟨v, hv⟩ := heo
      exact ⟨v, by rw [hbe]; exact hv⟩
    · refine (ok b u q).stay (fun c v hc r => k c v ?_ r) (fun c r => by rw [upd_ne (nown c b r)]; exact r) fun c xs r => by rw [upd_ne (ntup c xs r)]; exact r
      rcases hc with rfl | hc
      · exact hbe
      · rintro rfl
        rcases he with z | z
        · exact nown c b hc z
        · rw [hc] at z; cases z; exact hb rfl
end
structure Un (fs ex : List Addr) (H H' : Hp) (h h' : Heap) : Prop where
  keep : ∀ b o, h.get? b = some o → H b = none → b ∉ fs → b ∉ ex → h'.get? b = some o
  slot : ∀ b o, h.get? b = some o → H b = none → b ∈ fs → b ∉ ex → ∃ sl, h'.get? b = some { o with slots := sl }
  free : ∀ b o, h.get? b = some o → H b = none → b ∉ ex → H' b = none
  there : ∀ b o, h.get? b = some o → b ∉ ex → ∃ o', h'.get? b = some o'
  tups : ∀ b xs, H b = some (.tup xs) → H' b = some (.tup xs)
  frzs : ∀ b o u, H b = some (.frz o u) → H' b = some (.frz o u)
  tbls : ∀ b ps, H b = some (.tbl ps) → ∃ more, H' b = some (.tbl (ps ++ more))
section
variable {fs fs' ex ex' : List Addr} {H H1 H2 : Hp} {h h1 h2 h' : Heap} {a x e : Addr} {o : HO}
theorem Un.any (u : Un fs ex H H1 h h1) {b : Addr} {ob : Obj} (q : h.get? b = some ob) (n : H b = none) (hx : b ∉ ex) : ∃ sl, h1.get? b = some { ob with slots := sl } := by
  by_cases hb : b ∈ fs
  · exact u.slot b ob q n hb hx
  · exact ⟨ob.slots, u.keep b ob q n hb hx⟩
theorem Un.trans (a : Un fs ex H H1 h h1) (b : Un fs ex H1 H2 h1 h2) : Un fs ex H H2 h h2 where
  keep := fun c ob q n hc hx => b.keep c ob (a.keep c ob q n hc hx) (a.free c ob q n hx) hc hx
  slot := fun c ob q n hc hx => by
    obtain ⟨sl, e1⟩ := a.slot c ob q n hc hx
    obtain ⟨sl', e2⟩ := b.slot c _ e1 (a.free c ob q n hx) hc hx
    exact ⟨sl', e2⟩
  free := fun c ob q n hx => by
    obtain ⟨o', e1⟩ := a.there c ob q hx
    exact b.free c o' e1 (a.free c ob q n hx) hx
  there := fun c ob q hx => by
    obtain ⟨o', e1⟩ := a.there c ob q hx
    exact b.there c o' e1 hx
  tups := fun c xs q => b.tups c xs (a.tups c xs q)
  frzs := fun c ob xs q => b.frzs c ob xs (a.frzs c ob xs q)
  tbls := fun c ps q => by
    obtain ⟨m1, e1⟩ := a.tbls c ps q
    obtain ⟨m2, e2⟩ := b.tbls c _ e1
    exact ⟨m1 ++ m2, by rw [e2, Array.append_assoc]⟩
theorem Un.kept (k : ∀ b u, h.get? b = some u → h'.get? b = some u) : Un fs ex H H h h' :=
  ⟨fun b ob q _ _ _ => k b ob q, fun b ob q _ _ _ => ⟨ob.slots, k b ob q⟩, fun _ _ _ n _ => n, fun b ob q _ => ⟨ob, k b ob q⟩, fun _ _ q => q, fun _ _ _ q => q, fun _ ps q => ⟨#[], by rw [q]; simp⟩⟩
theorem Un.refl : Un fs ex H H h h := Un.kept fun _ _ q => q
theorem Un.laid (k : ∀ b u, h.get? b = some u → h'.get? b = some u) (hp : h.objs.size ≤ a) (hn : H a = none) : Un fs ex H (upd H a o) h h' where
  keep := fun b u q _ _ _ => k b u q
  slot := fun b u q _ _ _ => ⟨u.slots, k b u q⟩
  free := fun b u q n _ => by rw [upd_ne (Nat.ne_of_lt (Nat.lt_of_lt_of_le (Heap.lt_size q) hp))]; exact n
  there := fun b u q _ => ⟨u, k b u q⟩
  tups := fun b xs q => by rw [upd_ne (ne_of_none q hn)]; exact q
  frzs := fun b u xs q => by rw [upd_ne (ne_of_none q hn)]; exact q
  tbls := fun b ps q => ⟨#[], by rw [upd_ne (ne_of_none q hn), q]; simp⟩
theorem Un.write (mu : Mut (H x)) (he : e = x ∨ H e = some (.own x)) (k : ∀ b u, b ≠ e → h.get? b = some u → h'.get? b = some u) (heo : ∃ u, h'.get? e = some u) : Un fs ex H (upd H x o) h h' := by
  have hx : ∀ b, H b = none → b ≠ x := fun b n z => by subst z; rw [n] at mu; exact mu
  have hb : ∀ b, H b = none → b ≠ e := fun b n z => by
    subst z
    rcases he with r | r
    · exact hx b n r
    · rw [n] at r; cases r
  have hm : ∀ b u, H b = some u → ¬ Mut (some u) → b ≠ x := fun b u q nm z => by subst z; rw [q] at mu; exact nm mu
  refine ⟨fun b u q n _ _ => k b u (hb b n) q, fun b u q n _ _ => ⟨u.slots, k b u (hb b n) q⟩, fun b u q n _ => by rw [upd_ne (hx b n)]; exact n, fun b u q _ => ?_,
    fun b xs q => by rw [upd_ne (hm b _ q fun z => z)]; exact q, fun b u xs q => by rw [upd_ne (hm b _ q fun z => z)]; exact q, fun b ps q => ⟨#[], by rw [upd_ne (hm b _ q fun z => z), q]; simp⟩⟩
  by_cases hbe : b = e
  · subst hbe; exact heo
  · exact ⟨u, k b u hbe q⟩
theorem Un.mono (u : Un fs ex H H1 h h1) (hs : ∀ b ∈ fs, b ∈ fs') (hx : ∀ b ∈ ex, b ∈ ex') : Un fs' ex' H H1 h h1 :=
  ⟨fun b ob q n hb he => u.keep b ob q n (fun z => hb (hs b z)) fun z => he (hx b z), fun _ _ q n _ he => u.any q n fun z => he (hx _ z), fun b ob q n he => u.free b ob q n fun z => he (hx b z), fun b ob q he => u.there b ob q fun z => he (hx b z), u.tups, u.frzs, u.tbls⟩
end
def trk (h : Heap) (H : Hp) : List Addr := (List.range h.objs.size).filter fun a => (H a).isSome
def hidT (h : Heap) (H : Hp) : Heap := PySem.W.hideAll h (trk h H)
theorem hidT_size (h : Heap) (H : Hp) : (hidT h H).objs.size = h.objs.size := PySem.W.hideAll_size _ _
theorem hidT_get {h : Heap} {H : Hp} {b : Addr} {o : Obj} (e : h.get? b = some o) (n : H b = none) : (hidT h H).get? b = some o :=
  PySem.W.hideAll_get _ e fun hm => by
    have q : (H b).isSome = true := (List.mem_filter.mp hm).2
    rw [n] at q; simp at q
theorem of_hidT {h : Heap} {H : Hp} {b : Addr} {o : Obj} (e : (hidT h H).get? b = some o) : h.get? b = some o ∧ H b = none := by
  have e' : h.get? b = some o := PySem.W.of_hideAll (trk h H) e
  refine ⟨e', ?_⟩
  cases q : H b with
  | none => rfl
  | some x =>
    have hm : b ∈ trk h H := List.mem_filter.mpr ⟨List.mem_range.mpr (Heap.lt_size e'), by simp [q]⟩
    have z : (hidT h H).get? b = none := PySem.W.hideAll_none (trk h H) hm
    rw [z] at e; cases e
def allNews (g h : Heap) (L : Addr) : List (Addr × Obj) := (List.range h.objs.size).filterMap fun a => if a = L ∨ (g.get? a).isSome = true then none else (h.get? a).map fun o => (a, o)
def rest (g h : Heap) (L d : Addr) : List (Addr × Obj) := (allNews g h L).filter fun p => decide (p.1 ≠ d)
end L2
namespace L2
open PySem PySem.Spec PyProof.Rows
structure Mod (K : PySem.W.Frag) (mg : Str → Option Value) (base : Heap) : Prop where
  kin : K.In base
  glob : base.Ns mainGlobals mg
  blt : ∃ mb, base.Ns builtinsNs mb ∧ ∀ x : Str, x ≠ "__name__" → mb x = bootBuiltins x
  nolimit : base.NoLimit
structure Cx where
  prog : Program
  w : World
  K : PySem.W.Frag
  mg : Str → Option Value
  base : Heap
  A : Around
  N : List Str
  s₀ : Shared
  H₀ : Hp
  env : Env
  outer : List Env
  stack : List Env
  ex : List Addr
  fn : Str → Bool
  calm : Bool
  pn : List (Addr × Obj)
  xe : Value → Shared → Prop
def frs (l : List Env) : List Addr := l.filterMap (·.frame)
abbrev Cx.fs (X : Cx) : List Addr := frs X.outer
def Vis (sc : Scope) (x : Str) : Prop := sc.names.lookup x = some .local ∨ sc.names.lookup x = some .cell ∨ sc.names.lookup x = some .free
def Loc (sc : Scope) (x : Str) : Prop := sc.names.lookup x = some .local ∨ sc.names.lookup x = some .cell
def Look (env : Env) (h : Heap) (m : Str → Option Value) (x : Str) (u : Value) : Prop :=
  (env.kindOf x = some .local ∧ m x = some u) ∨ ((env.kindOf x = some .cell ∨ env.kindOf x = some .free) ∧ ∃ c, env.cells.lookup x = some c ∧ h.IsCell c (some u))
structure Cx.Ok (X : Cx) : Prop where
  mod : Mod X.K X.mg X.base
  kind : X.env.scope.kind = .function
  glob : X.env.globals = mainGlobals
  blt : X.env.builtins = builtinsNs
  above : X.s₀.heap.objs.size ≤ X.env.locals
  inj : ∀ x y c, X.env.cells.lookup x = some c → X.env.cells.lookup y = some c → x = y
  has : ∀ x, (X.env.kindOf x = some .cell ∨ X.env.kindOf x = some .free) → ∃ c, X.env.cells.lookup x = some c
  cab : ∀ x c, X.fn x = true → X.env.cells.lookup x = some c → X.s₀.heap.objs.size ≤ c
  hd : X.calm = true → X.A.handled = none
  frames : X.A.frames = some X.stack
  stk : X.stack = X.outer ∨ (X.stack = X.env :: X.outer ∧ X.env.frame = some X.env.locals)
  exf : ∀ b ∈ X.ex, b ≠ X.env.locals ∧ ∀ x c, X.env.cells.lookup x = some c → c ≠ b
  bs : ∀ b o, X.base.get? b = some o → X.s₀.heap.get? b = some o ∧ X.H₀ b = none
  bsz : X.base.objs.size ≤ X.s₀.heap.objs.size
  noex : ∀ b o, X.base.get? b = some o → b ∉ X.ex
  exfs : ∀ b ∈ X.ex, b ∉ X.fs
  funs : X.s₀.heap.FunFrames X.base X.outer
  frf : ∀ b ∈ X.fs, X.H₀ b = none
structure Inv (X : Cx) (pins : List (Addr × Obj)) (σ : List (Option V)) (H : Hp) (s : Shared) : Prop where
  ok : X.Ok
  os : s.os = X.s₀.os
  bare : AllBare s.gens
  base : Un X.fs X.ex X.H₀ H X.s₀.heap s.heap
  loc : ∃ m, s.heap.Ns X.env.locals m ∧ ∀ (i : Nat) (x : Str) (v : V), X.N[i]? = some x → σ[i]? = some (some v) → Vis X.env.scope x → ∃ u, RelV v u ∧ Look X.env s.heap m x u
  cell : ∀ x c, X.env.cells.lookup x = some c → ∃ v, s.heap.IsCell c v
  free : H X.env.locals = none
  freeC : ∀ x c, X.env.cells.lookup x = some c → H c = none
  pin : ∀ p ∈ X.pn ++ pins, s.heap.get? p.1 = some p.2 ∧ H p.1 = none ∧ p.1 ≠ X.env.locals ∧ p.1 ∉ X.fs ∧ ∀ v, p.2.data ≠ .cell v
  hok : HOk X.prog X.w H s.heap
  len : σ.length = X.N.length
section
variable {X : Cx} {pins : List (Addr × Obj)} {σ : List (Option V)} {H H' : Hp} {s : Shared} {h' : Heap}
theorem Cx.Ok.nofr (ok : X.Ok) {b : Addr} {o : Obj} (e : X.base.get? b = some o) : b ∉ X.fs := fun hb => by
  have := (ok.funs.mem hb).1
  rw [e] at this; cases this
theorem Inv.bs (I : Inv X pins σ H s) : ∀ b o, X.base.get? b = some o → s.heap.get? b = some o ∧ H b = none := fun b o e =>
  ⟨I.base.keep b o (I.ok.bs b o e).1 (I.ok.bs b o e).2 (I.ok.nofr e) (I.ok.noex b o e), I.base.free b o (I.ok.bs b o e).1 (I.ok.bs b o e).2 (I.ok.noex b o e)⟩
theorem Inv.bk (I : Inv X pins σ H s) : ∀ b o, X.base.get? b = some o → s.heap.get? b = some o := fun b o e => (I.bs b o e).1
theorem Inv.mod (I : Inv X pins σ H s) : Mod X.K X.mg X.base := I.ok.mod
theorem Inv.kIn (I : Inv X pins σ H s) : X.K.In s.heap := I.ok.mod.kin.keeps I.bk
theorem Inv.nolimit (I : Inv X pins σ H s) : s.heap.NoLimit := I.ok.mod.nolimit.keeps I.bk
theorem Inv.fr (I : Inv X pins σ H s) : ∃ m, Fr X.base X.env.locals s.heap m :=
  let ⟨m, hn, _⟩ := I.loc
  ⟨m, hn, I.bk, Nat.le_trans I.ok.bsz I.ok.above⟩
theorem Inv.lt (I : Inv X pins σ H s) : X.env.locals < s.heap.objs.size := let ⟨_, hn, _⟩ := I.loc; hn.lt
theorem Inv.sz (I : Inv X pins σ H s) : X.s₀.heap.objs.size ≤ s.heap.objs.size := Nat.le_trans I.ok.above (Nat.le_of_lt I.lt)
theorem Inv.nofs (I : Inv X pins σ H s) {a : Addr} (h : s.heap.objs.size ≤ a) : a ∉ X.fs := fun hb => by
  obtain ⟨_, o, ho, _⟩ := I.ok.funs.mem hb
  exact absurd (Nat.lt_of_lt_of_le (Heap.lt_size ho) (Nat.le_trans I.sz h)) (Nat.lt_irrefl _)
theorem Inv.cne (I : Inv X pins σ H s) : ∀ x c, X.env.cells.lookup x = some c → c ≠ X.env.locals := fun x c e z => by
  obtain ⟨v, o, ho, hd⟩ := I.cell x c e
  obtain ⟨m, ⟨o', es, ep, ho', hd', _⟩, _⟩ := I.loc
  rw [z, ho'] at ho; cases ho; rw [hd'] at hd; cases hd
theorem Inv.funs (I : Inv X pins σ H s) : s.heap.FunFrames X.base X.outer := by
  have all : ∀ (l : List Env), (∀ b ∈ frs l, b ∈ X.fs) → X.s₀.heap.FunFrames X.base l → s.heap.FunFrames X.base l := by
    intro l
    induction l with
    | nil => intro _ _; trivial
    | cons env r ih =>
      intro hs hl
      obtain ⟨hk, ⟨L, o, hf, hn, ho, hd⟩, hr⟩ := hl
      have hL : L ∈ X.fs := hs L (by unfold frs; rw [List.filterMap_cons, hf]; exact List.mem_cons_self)
      obtain ⟨sl, e⟩ := I.base.slot L o ho (I.ok.frf L hL) hL fun z => I.ok.exfs L z hL
      exact ⟨hk, ⟨L, _, hf, hn, e, hd⟩, ih (fun b hb => hs b (by unfold frs; rw [List.filterMap_cons, hf]; exact List.mem_cons_of_mem _ hb)) hr⟩
  exact all X.outer (fun _ hb => hb) I.ok.funs
theorem Inv.stack (I : Inv X pins σ H s) : s.heap.FunFrames X.base X.stack := by
  rcases I.ok.stk with e | ⟨e, hf⟩
  · rw [e]; exact I.funs
  · rw [e]
    obtain ⟨m, hn, _⟩ := I.loc
    refine .cons (by rw [I.ok.kind]; decide) hf hn ?_ I.funs
    exact Heap.get?_none_of_le (Nat.le_trans I.ok.bsz I.ok.above)
theorem Inv.stkSub (I : Inv X pins σ H s) : ∀ b ∈ frs X.stack, b ∈ X.env.locals :: X.fs := fun b hb => by
  rcases I.ok.stk with e | ⟨e, hf⟩
  · rw [e] at hb; exact List.mem_cons_of_mem _ hb
  · rw [e] at hb
    unfold frs at hb
    rw [List.filterMap_cons, hf] at hb
    exact hb
theorem Inv.stkFree (I : Inv X pins σ H s) : ∀ b ∈ frs X.stack, H b = none := fun b hb => by
  rcases List.mem_cons.mp (I.stkSub b hb) with e | hb
  · rw [e]; exact I.free
  · obtain ⟨_, o, ho, _⟩ := I.ok.funs.mem hb
    exact I.base.free b o ho (I.ok.frf b hb) fun z => I.ok.exfs b z hb
theorem Inv.step {g' : Array GenState} {t' : Nat} {d' : Drawn} {ch : List Addr} (I : Inv X pins σ H s)
    (hch : ∀ b ∈ ch, (b ∈ X.ex ∨ X.s₀.heap.objs.size ≤ b) ∧ b ≠ X.env.locals ∧ (∀ x c, X.env.cells.lookup x = some c → c ≠ b) ∧ ∀ p ∈ X.pn ++ pins, p.1 ≠ b)
    (keep : ∀ b o, b ≠ X.env.locals → b ∉ X.fs → b ∉ ch → s.heap.get? b = some o → H b = none → h'.get? b = some o)
    (slot : ∀ b o, b ≠ X.env.locals → b ∈ X.fs → b ∉ ch → s.heap.get? b = some o → H b = none → ∃ sl, h'.get? b = some { o with slots := sl }) (free : ∀ b o, b ∉ ch → s.heap.get? b = some o → H b = none → H' b = none)
    (there : ∀ b o, b ∉ ch → s.heap.get? b = some o → ∃ o', h'.get? b = some o')
    (tups : ∀ b xs, H b = some (.tup xs) → H' b = some (.tup xs)) (frzs : ∀ b o u, H b = some (.frz o u) → H' b = some (.frz o u)) (tbls : ∀ b ps, H b = some (.tbl ps) → ∃ more, H' b = some (.tbl (ps ++ more)))
    (ns : ∀ m, s.heap.Ns X.env.locals m → h'.Ns X.env.locals m) (hok : HOk X.prog X.w H' h') (hg : AllBare g') :
    Inv X pins σ H' { s with heap := h', gens := g', drawn := d', toks := t' } := by
  have neL : ∀ b o, X.s₀.heap.get? b = some o → b ≠ X.env.locals := fun b o e => Nat.ne_of_lt (Nat.lt_of_lt_of_le (Heap.lt_size e) I.ok.above)
  have neC : ∀ b o, X.s₀.heap.get? b = some o → b ∉ X.ex → b ∉ ch := fun b o e hx hb => by
    rcases (hch b hb).1 with z | z
    · exact hx z
    · exact absurd (Nat.lt_of_lt_of_le (Heap.lt_size e) z) (Nat.lt_irrefl _)
  have cellK : ∀ x c, X.env.cells.lookup x = some c → ∀ v, s.heap.IsCell c v → h'.IsCell c v := fun x c e v ⟨o, ho, hd⟩ => by
    have nch : c ∉ ch := fun z => (hch c z).2.2.1 x c e rfl
    by_cases hc : c ∈ X.fs
    · obtain ⟨sl, q⟩ := slot c o (I.cne x c e) hc nch ho (I.freeC x c e)
      exact ⟨_, q, hd⟩
    · exact ⟨o, keep c o (I.cne x c e) hc nch ho (I.freeC x c e), hd⟩
  refine ⟨I.ok, I.os, hg, ⟨fun b o e n hb hx => ?_, fun b o e n hb hx => ?_, fun b o e n hx => ?_, fun b o e hx => ?_, fun b xs e => tups b xs (I.base.tups b xs e), fun b o xs e => frzs b o xs (I.base.frzs b o xs e), fun b ps e => ?_⟩, ?_, fun x c e => ?_, ?_, fun x c e => ?_, fun p hp => ?_, hok, I.len⟩
  · exact keep b o (neL b o e) hb (neC b o e hx) (I.base.keep b o e n hb hx) (I.base.free b o e n hx)
  · obtain ⟨sl, e1⟩ := I.base.slot b o e n hb hx
    obtain ⟨sl', e2⟩ := slot b _ (neL b o e) hb (neC b o e hx) e1 (I.base.free b o e n hx)
    exact ⟨sl', e2⟩
  · obtain ⟨o', e1⟩ := I.base.there b o e hx
    exact free b o' (neC b o e hx) e1 (I.base.free b o e n hx)
  · obtain ⟨o', e1⟩ := I.base.there b o e hx
    exact there b o' (neC b o e hx) e1
  · obtain ⟨m1, e1⟩ := I.base.tbls b ps e
    obtain ⟨m2, e2⟩ := tbls b _ e1
    exact ⟨m1 ++ m2, by rw [e2, Array.append_assoc]⟩
  · obtain ⟨m, hn, hl⟩ := I.loc
    refine ⟨m, ns m hn, fun i x v e1 e2 e3 => ?_⟩
    obtain ⟨u, r, l⟩ := hl i x v e1 e2 e3
    refine ⟨u, r, ?_⟩
    rcases l with l | ⟨k, c, e, z⟩
    · exact .inl l
    · exact .inr ⟨k, c, e, cellK x c e _ z⟩
  · obtain ⟨v, z⟩ := I.cell x c e
    exact ⟨v, cellK x c e v z⟩
  · obtain ⟨m, ⟨o, _, _, ho, _⟩, _⟩ := I.loc
    exact free _ o (fun z => (hch _ z).2.1 rfl) ho I.free
  · obtain ⟨v, o, ho, hd⟩ := I.cell x c e
    exact free c o (fun z => (hch c z).2.2.1 x c e rfl) ho (I.freeC x c e)
  · obtain ⟨e, n, ne, nf, d⟩ := I.pin p hp
    have nch : p.1 ∉ ch := fun z => (hch p.1 z).2.2.2 p hp rfl
    exact ⟨keep p.1 p.2 ne nf nch e n, free p.1 p.2 nch e n, ne, nf, d⟩
theorem Inv.un {t' : Nat} (I : Inv X pins σ H s) (u : Un X.fs [] H H' s.heap h') (hok : HOk X.prog X.w H' h') : Inv X pins σ H' { s with heap := h', toks := t' } := by
  obtain ⟨m, ⟨o, es, ep, ho, r⟩, _⟩ := id I.loc
  obtain ⟨sl, hL⟩ := u.any ho I.free (by simp)
  exact I.step (g' := s.gens) (d' := s.drawn) (ch := []) (fun _ z => nomatch z) (fun b o _ hb _ e n => u.keep b o e n hb (by simp)) (fun b o _ hb _ e n => u.slot b o e n hb (by simp)) (fun b o _ e n => u.free b o e n (by simp)) (fun b o _ e => u.there b o e (by simp)) u.tups u.frzs u.tbls (fun m' hm => by
    obtain ⟨o', es', ep', ho', r'⟩ := hm
    rw [ho] at ho'; cases ho'
    exact ⟨_, es', ep', hL, r'⟩) hok I.bare
theorem Inv.call {g' : Array GenState} {t' : Nat} {d' : Drawn} {ch : List Addr} (I : Inv X pins σ H s) (u : Un (frs X.stack) ch H H' s.heap h') (hok : HOk X.prog X.w H' h') (hg : AllBare g')
    (hch : ∀ b ∈ ch, (b ∈ X.ex ∨ X.s₀.heap.objs.size ≤ b) ∧ b ≠ X.env.locals ∧ (∀ x c, X.env.cells.lookup x = some c → c ≠ b) ∧ ∀ p ∈ X.pn ++ pins, p.1 ≠ b) :
    Inv X pins σ H' { s with heap := h', gens := g', drawn := d', toks := t' } := by
  obtain ⟨m, ⟨o, es, ep, ho, r⟩, _⟩ := id I.loc
  obtain ⟨sl, hL⟩ := u.any ho I.free fun z => (hch _ z).2.1 rfl
  exact I.step (ch := ch) hch (fun b o hL hb hc e n => u.keep b o e n (fun z => (List.mem_cons.mp (I.stkSub b z)).elim hL hb) hc) (fun b o _ _ hc e n => u.any e n hc) (fun b o hc e n => u.free b o e n hc) (fun b o hc e => u.there b o e hc) u.tups u.frzs u.tbls (fun m' hm => by
    obtain ⟨o', es', ep', ho', r'⟩ := hm
    rw [ho] at ho'; cases ho'
    exact ⟨_, es', ep', hL, r'⟩) hok hg
theorem Inv.turned {t' : Nat} {it : Addr} (I : Inv X pins σ H s) (k : ∀ b o, b ≠ it → s.heap.get? b = some o → h'.get? b = some o) (hn : H it = none) (hL : it ≠ X.env.locals)
    (h1 : it ∈ X.ex ∨ X.s₀.heap.objs.size ≤ it) (h2 : ∀ x c, X.env.cells.lookup x = some c → c ≠ it) (h3 : ∀ p ∈ X.pn ++ pins, p.1 ≠ it) : Inv X pins σ H { s with heap := h', toks := t' } := by
  have nit : ∀ b u, H b = some u → b ≠ it := fun b u e z => by rw [z, hn] at e; cases e
  refine I.step (g' := s.gens) (d' := s.drawn) (ch := [it]) (fun b hb => ?_) (fun b o _ _ hc e _ => k b o (fun z => hc (by simp [z])) e) (fun b o _ _ hc e _ => ⟨o.slots, k b o (fun z => hc (by simp [z])) e⟩) (fun _ _ _ _ n => n)
    (fun b o hc e => ⟨o, k b o (fun z => hc (by simp [z])) e⟩) (fun _ _ e => e) (fun _ _ _ e => e) (fun b ps e => ⟨#[], by rw [e]; simp⟩) (fun m hm => ?_) (fun b u e => ?_) I.bare
  · have e : b = it := by simpa using hb
    subst e
    exact ⟨h1, hL, h2, h3⟩
  · obtain ⟨o, es, ep, ho, r⟩ := hm
    exact ⟨o, es, ep, k _ o (Ne.symm hL) ho, r⟩
  · refine (I.hok b u e).stay (fun c v hc q => k c v ?_ q) (fun _ q => q) fun _ _ q => q
    rcases hc with z | z
    · rw [z]; exact nit b u e
    · exact nit c _ z
theorem Inv.tok (I : Inv X pins σ H s) (t : Nat) : Inv X pins σ H { s with toks := t } := I.un (h' := s.heap) (t' := t) Un.refl I.hok
theorem Inv.kept {t' : Nat} (I : Inv X pins σ H s) (k : ∀ b u, s.heap.get? b = some u → h'.get? b = some u) : Inv X pins σ H { s with heap := h', toks := t' } := I.un (Un.kept k) (I.hok.kept k)
theorem Inv.laid {a : Addr} {o : HO} {t' : Nat} (I : Inv X pins σ H s) (k : ∀ b u, s.heap.get? b = some u → h'.get? b = some u) (hp : s.heap.objs.size ≤ a) (new : ObjOk X.prog X.w (upd H a o) h' a o) :
    Inv X pins σ (upd H a o) { s with heap := h', toks := t' } := I.un (Un.laid k hp (I.hok.fresh hp)) (I.hok.laid k hp new)
theorem Inv.write {x e : Addr} {o : HO} {t' : Nat} (I : Inv X pins σ H s) (mu : Mut (H x)) (he : e = x ∨ H e = some (.own x)) (k : ∀ b u, b ≠ e → s.heap.get? b = some u → h'.get? b = some u) (heo : ∃ u, h'.get? e = some u)
    (new : ObjOk X.prog X.w (upd H x o) h' x o) : Inv X pins σ (upd H x o) { s with heap := h', toks := t' } := I.un (Un.write mu he k heo) (I.hok.write mu he k heo new)
theorem Inv.pins_of {pins' : List (Addr × Obj)} (I : Inv X pins σ H s) (h : ∀ p ∈ pins', s.heap.get? p.1 = some p.2 ∧ H p.1 = none ∧ p.1 ≠ X.env.locals ∧ p.1 ∉ X.fs ∧ ∀ v, p.2.data ≠ .cell v) : Inv X pins' σ H s :=
  ⟨I.ok, I.os, I.bare, I.base, I.loc, I.cell, I.free, I.freeC, fun p hp => (List.mem_append.mp hp).elim (fun z => I.pin p (List.mem_append_left _ z)) (h p), I.hok, I.len⟩
theorem nodup_ix {N : List Str} (hN : N.Nodup) {i j : Nat} {x : Str} (a : N[i]? = some x) (b : N[j]? = some x) : i = j := by
  obtain ⟨h1, e1⟩ := List.getElem?_eq_some_iff.mp a
  obtain ⟨h2, e2⟩ := List.getElem?_eq_some_iff.mp b
  exact (List.getElem_inj hN).mp (e1.trans e2.symm)
theorem store_ok2 {M : Model} {A : Around} {E : Value → Shared → Prop} {i : Nat} {x : Str} {v : V} {u : Value} {Q : Unit → Shared → Prop} (I : Inv X pins σ H s) (hN : X.N.Nodup) (hi : X.N[i]? = some x) (hx : Loc X.env.scope x) (r : RelV v u)
    (h : ∀ s', Inv X pins (σ.set i (some v)) H s' → (∃ a, Heap.SameBut a s.heap s'.heap ∧ (a = X.env.locals ∨ X.env.cells.lookup x = some a)) → Q () s') (hf : X.fn x = true ∨ X.env.scope.names.lookup x = some .local := by first | exact .inl rfl | exact .inr rfl | assumption) : wpAny M A (storeName X.env x u) Q E s := by
  obtain ⟨m, hn, hl⟩ := id I.loc
  have hcls : (X.env.scope.kind == .class || (X.env.scope.kind == .module && X.env.locals != X.env.globals)) = false := by rw [I.ok.kind]; rfl
  have hiσ : i < σ.length := by rw [I.len]; exact (List.getElem?_eq_some_iff.mp hi).1
  have cne := I.cne
  have tracked : ∀ {a : Addr} {h' : Heap}, (∃ o, s.heap.get? a = some o ∧ H a = none) → Heap.SameBut a s.heap h' → HOk X.prog X.w H h' := fun {a h'} ha hs b ob e => by
    obtain ⟨_, _, hfree⟩ := ha
    refine (I.hok b ob e).stay (fun c w' hc q => (hs.2 c ?_).trans q) (fun _ q => q) fun _ _ q => q
    rintro rfl
    rcases hc with rfl | hc
    · rw [hfree] at e; cases e
    · rw [hfree] at hc; cases hc
  rcases hx with hk | hk
  · refine wpAny_storeName_local hk hn (fun h' hn' hs => ?_) hcls
    obtain ⟨oL, _, _, hoL, _⟩ := id hn
    refine h _ ⟨I.ok, I.os, I.bare, ⟨fun b o e n hb hx => ?_, fun b o e n hb hx => ?_, I.base.free, fun b o e hx => ?_, I.base.tups, I.base.frzs, I.base.tbls⟩, ⟨_, hn', fun j y v' e1 e2 e3 => ?_⟩, fun y c e => ?_, I.free, I.freeC, fun p hp => ?_, tracked ⟨oL, hoL, I.free⟩ hs, by simpa using I.len⟩ ⟨_, hs, .inl rfl⟩
    · exact (hs.2 b (Nat.ne_of_lt (Nat.lt_of_lt_of_le (Heap.lt_size e) I.ok.above))).trans (I.base.keep b o e n hb hx)
    · obtain ⟨sl, e1⟩ := I.base.slot b o e n hb hx
      exact ⟨sl, (hs.2 b (Nat.ne_of_lt (Nat.lt_of_lt_of_le (Heap.lt_size e) I.ok.above))).trans e1⟩
    · obtain ⟨o', e1⟩ := I.base.there b o e hx
      exact ⟨o', (hs.2 b (Nat.ne_of_lt (Nat.lt_of_lt_of_le (Heap.lt_size e) I.ok.above))).trans e1⟩
    · by_cases hj : j = i
      · subst hj
        rw [hi] at e1; cases e1
        rw [List.getElem?_set_self hiσ] at e2
        cases e2
        exact ⟨u, r, .inl ⟨hk, by simp⟩⟩
      · rw [List.getElem?_set_ne (Ne.symm hj)] at e2
        obtain ⟨u', r', q⟩ := hl j y v' e1 e2 e3
        refine ⟨u', r', ?_⟩
        rcases q with ⟨k, e⟩ | ⟨k, c, e, z⟩
        · refine .inl ⟨k, ?_⟩
          have : y ≠ x := fun e => hj (nodup_ix hN e1 (e ▸ hi))
          simp [this, e]
        · exact .inr ⟨k, c, e, z.sameBut hs (cne y c e)⟩
    · obtain ⟨w', z⟩ := I.cell y c e
      exact ⟨w', z.sameBut hs (cne y c e)⟩
    · obtain ⟨e, n, ne, nf, d⟩ := I.pin p hp
      exact ⟨(hs.2 p.1 ne).trans e, n, ne, nf, d⟩
  · have hfn : X.fn x = true := by
      rcases hf with z | z
      · exact z
      · rw [z] at hk; cases hk
    obtain ⟨c, hc⟩ := I.ok.has x (.inl hk)
    obtain ⟨w', z⟩ := I.cell x c hc
    refine wpAny_storeName_cell I.ok.kind hk hc z (fun h' hc' hs => ?_)
    obtain ⟨oc, hoc, hocd⟩ := id z
    refine h { s with heap := h' } ⟨I.ok, I.os, I.bare, ⟨fun b o e n hb hx => ?_, fun b o e n hb hx => ?_, I.base.free, fun b o e hx => ?_, I.base.tups, I.base.frzs, I.base.tbls⟩, ⟨m, hn.sameBut hs (Ne.symm (cne x c hc)), fun j y v' e1 e2 e3 => ?_⟩, fun y c' e => ?_, I.free, I.freeC, fun p hp => ?_, tracked ⟨oc, hoc, I.freeC x c hc⟩ hs, by simpa using I.len⟩ ⟨c, hs, .inr hc⟩
    · exact (hs.2 b (Nat.ne_of_lt (Nat.lt_of_lt_of_le (Heap.lt_size e) (I.ok.cab x c hfn hc)))).trans (I.base.keep b o e n hb hx)
    · obtain ⟨sl, e1⟩ := I.base.slot b o e n hb hx
      exact ⟨sl, (hs.2 b (Nat.ne_of_lt (Nat.lt_of_lt_of_le (Heap.lt_size e) (I.ok.cab x c hfn hc)))).trans e1⟩
    · obtain ⟨o', e1⟩ := I.base.there b o e hx
      exact ⟨o', (hs.2 b (Nat.ne_of_lt (Nat.lt_of_lt_of_le (Heap.lt_size e) (I.ok.cab x c hfn hc)))).trans e1⟩
    · by_cases hj : j = i
      · subst hj
        rw [hi] at e1; cases e1
        rw [List.getElem?_set_self hiσ] at e2
        cases e2
        exact ⟨u, r, .inr ⟨.inl hk, c, hc, hc'⟩⟩
      · rw [List.getElem?_set_ne (Ne.symm hj)] at e2
        obtain ⟨u', r', q⟩ := hl j y v' e1 e2 e3
        refine ⟨u', r', ?_⟩
        rcases q with q | ⟨k, c', e, z'⟩
        · exact .inl q
        · refine .inr ⟨k, c', e, z'.sameBut hs ?_⟩
          rintro rfl
          exact hj (nodup_ix hN e1 (I.ok.inj _ _ _ e hc ▸ hi))
    · by_cases hcc : c' = c
      · subst hcc; exact ⟨_, hc'⟩
      · obtain ⟨w2, z2⟩ := I.cell y c' e
        exact ⟨w2, z2.sameBut hs hcc⟩
    · obtain ⟨e, n, ne, nf, d⟩ := I.pin p hp
      refine ⟨(hs.2 p.1 ?_).trans e, n, ne, nf, d⟩
      intro q
      rw [q, hoc] at e
      have q' : oc = p.2 := Option.some.inj e
      exact d w' (by rw [← q']; exact hocd)
theorem store_ok {M : Model} {A : Around} {E : Value → Shared → Prop} {i : Nat} {x : Str} {v : V} {u : Value} {Q : Unit → Shared → Prop} (I : Inv X pins σ H s) (hN : X.N.Nodup) (hi : X.N[i]? = some x) (hx : Loc X.env.scope x) (r : RelV v u)
    (h : ∀ s', Inv X pins (σ.set i (some v)) H s' → Q () s') (hf : X.fn x = true ∨ X.env.scope.names.lookup x = some .local := by first | exact .inl rfl | exact .inr rfl | assumption) : wpAny M A (storeName X.env x u) Q E s :=
  store_ok2 I hN hi hx r (fun s' I' _ => h s' I') hf
theorem Inv.call' {s' : Shared} {ch : List Addr} (I : Inv X pins σ H s) (ho : s'.os = s.os) (u : Un (frs X.stack) ch H H' s.heap s'.heap) (hok : HOk X.prog X.w H' s'.heap) (hg : AllBare s'.gens)
    (hch : ∀ b ∈ ch, (b ∈ X.ex ∨ X.s₀.heap.objs.size ≤ b) ∧ b ≠ X.env.locals ∧ (∀ x c, X.env.cells.lookup x = some c → c ≠ b) ∧ ∀ p ∈ X.pn ++ pins, p.1 ≠ b) : Inv X pins σ H' s' := by
  obtain ⟨h', g', d', t', o'⟩ := s'
  have e : o' = s.os := ho
  subst e
  exact I.call (g' := g') (t' := t') (d' := d') u hok hg hch
end
abbrev XK := Value → Option Addr → Hp → Prop
abbrev St := List (Option V)
abbrev VK := V → Hp → Prop
abbrev TE := St → Hp → VK → Prop
abbrev TT := St → Hp → (Bool → Hp → Prop) → Prop
abbrev TA := St → Hp → (List V → Hp → Prop) → Prop
structure Ends where
  nx : St → Hp → Prop
  rt : VK
  bk : St → Hp → Prop := fun _ _ => False
  ct : St → Hp → Prop := fun _ _ => False
abbrev TS := Ends → St → Hp → Prop
def EP (X : Cx) (pins : List (Addr × Obj)) (σ : St) (Q : VK) (u : Value) (s' : Shared) : Prop := ∃ v H', Inv X pins σ H' s' ∧ RelV v u ∧ Q v H'
def TP (X : Cx) (pins : List (Addr × Obj)) (σ : St) (Q : Bool → Hp → Prop) (b : Bool) (s' : Shared) : Prop := ∃ H', Inv X pins σ H' s' ∧ Q b H'
def AP (X : Cx) (pins : List (Addr × Obj)) (σ : St) (Q : List V → Hp → Prop) (us : List Value) (s' : Shared) : Prop := ∃ vs H', Inv X pins σ H' s' ∧ Vals vs us ∧ Q vs H'
def SP (X : Cx) (pins : List (Addr × Obj)) (D : Ends) (f : Flow) (s' : Shared) : Prop :=
  match f with
  | .next => ∃ σ' H', Inv X pins σ' H' s' ∧ D.nx σ' H'
  | .brk => ∃ σ' H', Inv X pins σ' H' s' ∧ D.bk σ' H'
  | .cont => ∃ σ' H', Inv X pins σ' H' s' ∧ D.ct σ' H'
  | .ret u => ∃ v σ' H', Inv X pins σ' H' s' ∧ RelV v u ∧ D.rt v H'
def PE (X : Cx) (e : Expr) (t : TE) : Prop :=
  ∀ (pins : List (Addr × Obj)) (s : Shared) (σ : St) (H : Hp) (Q : VK), Inv X pins σ H s → t σ H Q → wpAny (model X.prog X.w) X.A (eval e X.env) (EP X pins σ Q) X.xe s
def PT (X : Cx) (e : Expr) (t : TT) : Prop :=
  ∀ (pins : List (Addr × Obj)) (s : Shared) (σ : St) (H : Hp) (Q : Bool → Hp → Prop), Inv X pins σ H s → t σ H Q → wpAny (model X.prog X.w) X.A (isTrue e X.env (eval e X.env)) (TP X pins σ Q) X.xe s
def PW (X : Cx) (e : Expr) (t : TT) : Prop :=
  ∀ (whole : Sem Value) (pins : List (Addr × Obj)) (s : Shared) (σ : St) (H : Hp) (Q : Bool → Hp → Prop), Inv X pins σ H s → t σ H Q → wpAny (model X.prog X.w) X.A (isTrue e X.env whole) (TP X pins σ Q) X.xe s
theorem PW.pt {X : Cx} {e : Expr} {t : TT} (h : PW X e t) : PT X e t := h _
def PA (X : Cx) (es : List Expr) (t : TA) : Prop :=
  ∀ (pos : Pos) (pins : List (Addr × Obj)) (s : Shared) (σ : St) (H : Hp) (Q : List V → Hp → Prop), Inv X pins σ H s → t σ H Q → wpAny (model X.prog X.w) X.A (spliced (backTo pos (starEach es X.env))) (AP X pins σ Q) X.xe s
def PS (X : Cx) (st : Stmt) (t : TS) : Prop :=
  ∀ (pins : List (Addr × Obj)) (s : Shared) (σ : St) (H : Hp) (D : Ends), Inv X pins σ H s → t D σ H → wpAny (model X.prog X.w) X.A (exec st X.env) (SP X pins D) X.xe s
def PSs (X : Cx) (st : List Stmt) (t : TS) : Prop :=
  ∀ (pins : List (Addr × Obj)) (s : Shared) (σ : St) (H : Hp) (D : Ends), Inv X pins σ H s → t D σ H → wpAny (model X.prog X.w) X.A (execs st X.env) (SP X pins D) X.xe s
theorem thn {α : Type} {t : Sem α} {Q Q' : α → Shared → Prop} {M : Model} {A : Around} {E : Value → Shared → Prop} {s : Shared} (h : wpAny M A t Q E s) (hQ : ∀ a s, Q a s → Q' a s) : wpAny M A t Q' E s := wpAny_mono h hQ fun _ _ x => x
end L2
namespace L2
open PySem PySem.Spec PyProof.Rows
section
variable {X : Cx}
theorem bin {a b : Expr} {ta tb : TE} (ha : PE X a ta) (hb : PE X b tb) {pins : List (Addr × Obj)} {s : Shared} {σ : St} {H : Hp} {R : V → V → Hp → Prop} (I : Inv X pins σ H s) (h : ta σ H fun x H1 => tb σ H1 fun y H2 => R x y H2)
    {α : Type} {Q : α → Shared → Prop} {f : Value → Value → Sem α}
    (hf : ∀ v u s2 x y H2, Inv X pins σ H2 s2 → RelV x v → RelV y u → R x y H2 → wpAny (model X.prog X.w) X.A (f v u) Q X.xe s2) :
    wpAny (model X.prog X.w) X.A (eval a X.env) (fun v s₁ => wpAny (model X.prog X.w) X.A (eval b X.env) (fun u s₂ => wpAny (model X.prog X.w) X.A (f v u) Q X.xe s₂) X.xe s₁) X.xe s := by
  refine thn (ha pins s σ H _ I h) fun v s1 ⟨x, H1, I1, r1, q1⟩ => ?_
  refine thn (hb pins s1 σ H1 _ I1 q1) fun u s2 ⟨y, H2, I2, r2, q2⟩ => ?_
  exact hf v u s2 x y H2 I2 r1 r2 q2
def tVar (i : Nat) : TE := fun σ H Q => ∃ v, σ[i]? = some (some v) ∧ Q v H
def tC (v : V) : TE := fun _ H Q => Q v H
theorem pe_var {i : Nat} {x : Str} {pos : Pos} (hN : X.N[i]? = some x) (hv : Vis X.env.scope x) (hd : (x == ("__debug__" : Str)) = false := by decide) (hcd : (x == ("__classdict__" : Str)) = false := by decide) : PE X (.Name x pos) (tVar i) := by
  intro pins s σ H Q I h
  obtain ⟨v, e, h⟩ := h
  obtain ⟨m, hn, hl⟩ := I.loc
  obtain ⟨u, r, l⟩ := hl i x v hN e hv
  have fin : EP X pins σ Q u s := ⟨v, H, I, r, h⟩
  rcases l with ⟨hk, hm⟩ | ⟨hk, c, hc, hcell⟩
  · exact wpAny_Name (wpAny_loadName_local I.ok.kind hk hn hm fin) hd
  · rcases hk with hk | hk
    · exact wpAny_Name (wpAny_loadName_cell I.ok.kind hk hc hcell fin) hd
    · exact wpAny_Name (wpAny_loadName_free I.ok.kind hk hc hcell fin hcd) hd
theorem pe_int {i j pos} : PE X (.Constant (.int i) j pos) (tC (.int i)) := fun _ _ _ H _ I h => wpAny_Constant_int ⟨.int i, H, I.tok _, ⟨_, rfl⟩, h⟩
theorem pe_bl {b j pos} : PE X (.Constant (.bool b) j pos) (tC (.bl b)) := fun _ _ _ H _ I h => Constant_bool ⟨.bl b, H, I, rfl, h⟩
theorem pe_non {j pos} : PE X (.Constant .none j pos) (tC .non) := fun _ _ _ H _ I h => Constant_none ⟨.non, H, I, rfl, h⟩
theorem pe_str {x j pos} : PE X (.Constant (.str x) j pos) (tC (.str x)) := fun _ _ _ H _ I h => Calls.Constant_str ⟨.str x, H, I.tok _, ⟨_, rfl⟩, h⟩
def Gl (X : Cx) (x : Str) : Prop := X.env.kindOf x = some .globalImplicit
theorem ld_glob {E : Value → Shared → Prop} {pins : List (Addr × Obj)} {s : Shared} {σ : St} {H : Hp} {x : Str} {u : Value} {pos : Pos} {Q : Value → Shared → Prop} (I : Inv X pins σ H s) (hg : Gl X x) (hm : X.mg x = some u) (h : Q u s)
    (hd : (x == ("__debug__" : Str)) = false := by decide) : wpAny (model X.prog X.w) X.A (eval (.Name x pos) X.env) Q E s :=
  Calls.Name_function_global I.ok.kind hg (Calls.loadGlobal_global (by rw [I.ok.glob]; exact I.mod.glob.keeps I.bk) hm h) hd
theorem ld_blt {E : Value → Shared → Prop} {pins : List (Addr × Obj)} {s : Shared} {σ : St} {H : Hp} {x : Str} {u : Value} {pos : Pos} {Q : Value → Shared → Prop} (I : Inv X pins σ H s) (hg : Gl X x) (hm : X.mg x = none) (hv : bootBuiltins x = some u) (h : Q u s)
    (hn : x ≠ "__name__" := by decide) (hd : (x == ("__debug__" : Str)) = false := by decide) : wpAny (model X.prog X.w) X.A (eval (.Name x pos) X.env) Q E s := by
  obtain ⟨mb, h1, h2⟩ := I.mod.blt
  exact Calls.Name_function_global I.ok.kind hg (Calls.loadGlobal_builtin (by rw [I.ok.glob]; exact I.mod.glob.keeps I.bk) hm (by rw [I.ok.blt]; exact h1.keeps I.bk) ((h2 x hn).trans hv) h) hd
theorem pe_glob {x : Str} {v : V} {u : Value} {pos : Pos} (hg : Gl X x) (hm : X.mg x = some u) (r : RelV v u) (hd : (x == ("__debug__" : Str)) = false := by decide) : PE X (.Name x pos) (tC v) :=
  fun _ _ _ H _ I h => ld_glob I hg hm ⟨v, H, I, r, h⟩ hd
theorem pe_bltn {x : Str} {v : V} {u : Value} {pos : Pos} (hg : Gl X x) (hm : X.mg x = none) (hv : bootBuiltins x = some u) (r : RelV v u) (hn : x ≠ "__name__" := by decide) (hd : (x == ("__debug__" : Str)) = false := by decide) : PE X (.Name x pos) (tC v) :=
  fun _ _ _ H _ I h => ld_blt I hg hm hv ⟨v, H, I, r, h⟩ hn hd
def t2I (ta tb : TE) (k : Int → Int → Hp → Prop) : St → Hp → Prop := fun σ H => ta σ H fun x H1 => tb σ H1 fun y H2 => ∃ i j, x = .int i ∧ y = .int j ∧ k i j H2
def tAdd (ta tb : TE) : TE := fun σ H Q => t2I ta tb (fun i j H2 => Q (.int (i + j)) H2) σ H
def tSub (ta tb : TE) : TE := fun σ H Q => t2I ta tb (fun i j H2 => Q (.int (i - j)) H2) σ H
def tMul (ta tb : TE) : TE := fun σ H Q => t2I ta tb (fun i j H2 => (-(2 ^ 64) < i ∧ i < 2 ^ 64) ∧ Q (.int (i * j)) H2) σ H
variable {a b : Expr} {ta tb : TE} {pos : Pos}
def PC (X : Cx) (op : CmpOp) (a b : Expr) (t : TE) : Prop :=
  ∀ (pins : List (Addr × Obj)) (s : Shared) (σ : St) (H : Hp) (Q : VK), Inv X pins σ H s → t σ H Q →
    wpAny (model X.prog X.w) X.A (eval a X.env) (fun v s₁ => wpAny (model X.prog X.w) X.A (eval b X.env) (fun u s₂ => wpAny (model X.prog X.w) X.A (compareOp op v u) (EP X pins σ Q) X.xe s₂) X.xe s₁) X.xe s
theorem nobehind (b : Expr) {op : CmpOp} (h : op ≠ .In) (h2 : op ≠ .NotIn) : behindInMarks op b = false := by
  have e1 : (op == CmpOp.In) = false := by cases op <;> first | rfl | exact absurd rfl h
  have e2 : (op == CmpOp.NotIn) = false := by cases op <;> first | rfl | exact absurd rfl h2
  cases b <;> simp [behindInMarks, e1, e2]
def tCmp (p : Int → Int → Bool) (ta tb : TE) : TE := fun σ H Q => t2I ta tb (fun i j H2 => Q (.bl (p i j)) H2) σ H
abbrev tLt : TE → TE → TE := tCmp fun i j => decide (i < j)
abbrev tLe : TE → TE → TE := tCmp fun i j => decide (i ≤ j)
abbrev tGt : TE → TE → TE := tCmp fun i j => decide (j < i)
abbrev tGe : TE → TE → TE := tCmp fun i j => decide (j ≤ i)
abbrev tEqI : TE → TE → TE := tCmp fun i j => decide (i = j)
abbrev tNeI : TE → TE → TE := tCmp fun i j => !decide (i = j)
def tIsN (ta : TE) : TE := fun σ H Q => ta σ H fun x H1 => Q (.bl (decide (x = .non))) H1
def tNotN (ta : TE) : TE := fun σ H Q => ta σ H fun x H1 => Q (.bl (!decide (x = .non))) H1
def tB (t : TE) : TT := fun σ H Q => t σ H fun x H1 => ∃ c, x = .bl c ∧ Q c H1
theorem pt_cmp {op : CmpOp} {t : TE} (h : PC X op a b t) (h1 : behindInMarks op b = false := by first | exact nobehind _ (by decide) (by decide) | rfl) : PT X (.Compare a [op] [b] pos) (tB t) := by
  intro pins s σ H Q I hw
  refine wpAny_isTrue_Compare1 (thn (h pins s σ H _ I hw) fun v s1 h1 => thn h1 fun u s2 h2 => thn h2 fun c s3 ⟨x, H1, I1, r1, q1⟩ => ?_) h1
  obtain ⟨d, rfl, q⟩ := q1
  cases r1
  exact wpAny_truthy_bool ⟨H1, I1, q⟩
theorem pt_val {e : Expr} {t : TE} (h : PE X e t) (he : ∀ whole, isTrue e X.env whole = (do let v ← whole; standAt e.pos; holding [v] (truthy v)) := by intro _; rfl) : PT X e (tB t) := by
  intro pins s σ H Q I hw
  refine isTrue_plain (thn (h pins s σ H _ I hw) fun v s1 ⟨x, H1, I1, r1, q1⟩ => ?_) (he _)
  obtain ⟨d, rfl, q⟩ := q1
  cases r1
  exact wpAny_truthy_bool ⟨H1, I1, q⟩
variable {tA tB' : TT} {rest : List Expr}
def tAnd (t u : TT) : TT := fun σ H Q => t σ H fun c H1 => if c = true then u σ H1 Q else Q false H1
def tOr (t u : TT) : TT := fun σ H Q => t σ H fun c H1 => if c = true then Q true H1 else u σ H1 Q
def tNot (t : TT) : TT := fun σ H Q => t σ H fun c H1 => Q (!c) H1
theorem pw_and1 (ha : PT X a tA) : PW X (.BoolOp .And [a] pos) tA := by
  intro wh pins s σ H Q I h
  refine isTrue_and (thn (ha pins s σ H Q I h) fun c s1 e => ?_)
  cases c with
  | true => exact isTrue_and_nil e
  | false => exact e
theorem pw_or1 (ha : PT X a tA) : PW X (.BoolOp .Or [a] pos) tA := by
  intro wh pins s σ H Q I h
  refine isTrue_or (thn (ha pins s σ H Q I h) fun c s1 e => ?_)
  cases c with
  | false => exact isTrue_or_nil e
  | true => exact e
theorem pw_and (ha : PT X a tA) (hb : PW X (.BoolOp .And (b :: rest) pos) tB') : PW X (.BoolOp .And (a :: b :: rest) pos) (tAnd tA tB') := by
  intro wh pins s σ H Q I h
  refine isTrue_and (thn (ha pins s σ H _ I h) fun c s1 ⟨H1, I1, q1⟩ => ?_)
  cases c with
  | true => exact hb wh pins s1 σ H1 Q I1 q1
  | false => exact ⟨H1, I1, q1⟩
theorem pw_or (ha : PT X a tA) (hb : PW X (.BoolOp .Or (b :: rest) pos) tB') : PW X (.BoolOp .Or (a :: b :: rest) pos) (tOr tA tB') := by
  intro wh pins s σ H Q I h
  refine isTrue_or (thn (ha pins s σ H _ I h) fun c s1 ⟨H1, I1, q1⟩ => ?_)
  cases c with
  | true => exact ⟨H1, I1, q1⟩
  | false => exact hb wh pins s1 σ H1 Q I1 q1
theorem pt_not (ha : PT X a tA) : PT X (.UnaryOp .Not a pos) (tNot tA) := by
  intro pins s σ H Q I h
  exact isTrue_not (ha pins s σ H (fun c H1 => Q (!c) H1) I h)
def tAndV (ta tb : TE) : TE := fun σ H Q => ta σ H fun x H1 => ∃ c, x = .bl c ∧ if c = true then tb σ H1 Q else Q (.bl false) H1
def tOrV (ta tb : TE) : TE := fun σ H Q => ta σ H fun x H1 => ∃ c, x = .bl c ∧ if c = true then Q (.bl true) H1 else tb σ H1 Q
def tNotV (ta : TE) : TE := fun σ H Q => ta σ H fun x H1 => ∃ c, x = .bl c ∧ Q (.bl (!c)) H1
theorem pe_one {op} {t : TE} (h : PE X a t) : PE X (.BoolOp op [a] pos) t := fun pins s σ H Q I hw => BoolOp_one (h pins s σ H Q I hw)
theorem pe_and (ha : PE X a ta) (hb : PE X (.BoolOp .And (b :: rest) pos) tb) : PE X (.BoolOp .And (a :: b :: rest) pos) (tAndV ta tb) := by
  intro pins s σ H Q I h
  refine BoolOp_and (thn (ha pins s σ H _ I h) fun v s1 ⟨x, H1, I1, r1, q1⟩ => ?_)
  obtain ⟨c, rfl, q1⟩ := q1
  cases r1
  refine wpAny_truthy_bool ?_
  cases c with
  | true => exact hb pins s1 σ H1 Q I1 q1
  | false => exact ⟨.bl false, H1, I1, rfl, q1⟩
theorem pe_not (ha : PE X a ta) : PE X (.UnaryOp .Not a pos) (tNotV ta) := by
  intro pins s σ H Q I h
  refine UnaryOp_ (thn (ha pins s σ H _ I h) fun v s1 ⟨x, H1, I1, r1, q1⟩ => ?_)
  obtain ⟨c, rfl, q1⟩ := q1
  cases r1
  exact not_of (wpAny_truthy_bool ⟨.bl (!c), H1, I1, rfl, q1⟩)
def tIf (t : TT) (ta tb : TE) : TE := fun σ H Q => t σ H fun c H1 => if c = true then ta σ H1 Q else tb σ H1 Q
end
end L2
namespace L2
open PySem PySem.Spec PyProof.Rows
def SqL (K : PySem.W.Frag) (H : Hp) (a : Addr) (xs : List V) : Prop :=
  Rd H a (.lst xs) ∨
    ∃ (o : Obj) (its : Array Value) (n : Nat), K.lookup a = some o ∧ o.cls = .type "list" ∧ o.dict = none ∧ o.data = .seq its n ∧ its.size ≤ sizeLine ∧ Vals xs its.toList
def SqT (K : PySem.W.Frag) (H : Hp) (a : Addr) (xs : List V) : Prop :=
  Rd H a (.tup xs) ∨
    ∃ (o : Obj) (its : Array Value) (n : Nat), K.lookup a = some o ∧ o.cls = .type "tuple" ∧ o.data = .seq its n ∧ its.size ≤ sizeLine ∧ Vals xs its.toList
def absV : Value → Option V
  | .none => some .non
  | .bool b => some (.bl b)
  | .int i _ => some (.int i)
  | .str x _ => some (.str x)
  | .bytes b _ => some (.byt b)
  | .float b _ => some (.flt b)
  | .ref a => some (.ref a)
  | .type n => some (.ty n)
  | _ => none
theorem RelV.abs {x : V} {u : Value} (r : RelV x u) : absV u = some x := by
  cases x with
  | non => cases r; rfl
  | bl _ => cases r; rfl
  | int _ => obtain ⟨t, rfl⟩ := r; rfl
  | str _ => obtain ⟨t, rfl⟩ := r; rfl
  | byt _ => obtain ⟨t, rfl⟩ := r; rfl
  | flt _ => obtain ⟨t, rfl⟩ := r; rfl
  | ref _ => cases r; rfl
  | ty _ => cases r; rfl
theorem RelV.inj {x y : V} {u : Value} (r : RelV x u) (q : RelV y u) : x = y := Option.some.inj (r.abs.symm.trans q.abs)
theorem Vals.inj : ∀ {xs ys : List V} {us : List Value}, Vals xs us → Vals ys us → xs = ys
  | _, _, _, .nil, .nil => rfl
  | _, _, _, .cons r t, .cons r' t' => by rw [r.inj r', Vals.inj t t']
section
variable {X : Cx} {pins : List (Addr × Obj)} {σ : St} {H : Hp} {s : Shared} {a : Addr} {xs ys : List V}
theorem SqL.of {K : PySem.W.Frag} (h : H a = some (.lst xs)) : SqL K H a xs := .inl (.inl h)
theorem SqT.of {K : PySem.W.Frag} (h : H a = some (.tup xs)) : SqT K H a xs := .inl (.inl h)
theorem Inv.list (I : Inv X pins σ H s) (h : SqL X.K H a xs) : ∃ its : List Value, Vals xs its ∧ PlainL s.heap a its.toArray ∧ xs.length ≤ sizeLine := by
  rcases h with h | ⟨o, its, n, hk, hc, hd, hs, hz, r⟩
  · obtain ⟨z, its, n, r, e⟩ := h.ok I.hok
    exact ⟨its, r, ⟨_, n, e, rfl, rfl, rfl⟩, z⟩
  · refine ⟨its.toList, r, ⟨o, n, I.kIn a o hk, hc, hd, by simpa using hs⟩, ?_⟩
    have e := r.length
    simp only [Array.length_toList] at e
    omega
theorem Inv.tuple (I : Inv X pins σ H s) (h : SqT X.K H a xs) : ∃ its : List Value, Vals xs its ∧ IsTup s.heap a its.toArray ∧ xs.length ≤ sizeLine := by
  rcases h with h | ⟨o, its, n, hk, hc, hs, hz, r⟩
  · obtain ⟨z, its, r, p⟩ := h.ok I.hok
    exact ⟨its, r, p, z⟩
  · refine ⟨its.toList, r, ⟨o, I.kIn a o hk, hc, n, by simpa using hs⟩, ?_⟩
    have e := r.length
    simp only [Array.length_toList] at e
    omega
theorem Inv.list_inj (I : Inv X pins σ H s) (h : SqL X.K H a xs) (h' : SqL X.K H a ys) : xs = ys := by
  obtain ⟨its, r, ⟨o, n, e, _, _, d⟩, _⟩ := I.list h
  obtain ⟨its', r', ⟨o', n', e', _, _, d'⟩, _⟩ := I.list h'
  rw [e] at e'; cases e'
  rw [d] at d'
  injection d' with d1 _
  have : its = its' := by simpa using congrArg Array.toList d1
  subst this
  exact r.inj r'
end
abbrev Cx.wish (X : Cx) (E : Value → Shared → Prop) : Cx := { X with xe := E }
abbrev Cx.nox (X : Cx) : Cx := X.wish fun _ _ => False
theorem Cx.Ok.wish {X : Cx} (ok : X.Ok) (E : Value → Shared → Prop) : (X.wish E).Ok :=
  ⟨ok.mod, ok.kind, ok.glob, ok.blt, ok.above, ok.inj, ok.has, ok.cab, ok.hd, ok.frames, ok.stk, ok.exf, ok.bs, ok.bsz, ok.noex, ok.exfs, ok.funs, ok.frf⟩
theorem Cx.Ok.unwish {X : Cx} {E : Value → Shared → Prop} (ok : (X.wish E).Ok) : X.Ok :=
  ⟨ok.mod, ok.kind, ok.glob, ok.blt, ok.above, ok.inj, ok.has, ok.cab, ok.hd, ok.frames, ok.stk, ok.exf, ok.bs, ok.bsz, ok.noex, ok.exfs, ok.funs, ok.frf⟩
section
variable {X : Cx} {pins : List (Addr × Obj)} {σ : St} {H : Hp} {s : Shared} {E : Value → Shared → Prop}
theorem Inv.wish (I : Inv X pins σ H s) (E : Value → Shared → Prop) : Inv (X.wish E) pins σ H s := ⟨I.ok.wish E, I.os, I.bare, I.base, I.loc, I.cell, I.free, I.freeC, I.pin, I.hok, I.len⟩
theorem Inv.unwish (I : Inv (X.wish E) pins σ H s) : Inv X pins σ H s := ⟨I.ok.unwish, I.os, I.bare, I.base, I.loc, I.cell, I.free, I.freeC, I.pin, I.hok, I.len⟩
theorem SP.unwish {D : Ends} {f : Flow} {s' : Shared} (h : SP (X.wish E) pins D f s') : SP X pins D f s' := by
  cases f with
  | next => obtain ⟨σ', H', I, q⟩ := h; exact ⟨σ', H', I.unwish, q⟩
  | brk => obtain ⟨σ', H', I, q⟩ := h; exact ⟨σ', H', I.unwish, q⟩
  | cont => obtain ⟨σ', H', I, q⟩ := h; exact ⟨σ', H', I.unwish, q⟩
  | ret u => obtain ⟨v, σ', H', I, r, q⟩ := h; exact ⟨v, σ', H', I.unwish, r, q⟩
theorem PE.nox {e : Expr} {t : TE} (h : PE X.nox e t) : PE X e t := fun pins s σ H Q I hw =>
  wpAny_mono (h pins s σ H Q (I.wish _) hw) (fun _ _ ⟨v, H', I', r, q⟩ => ⟨v, H', I'.unwish, r, q⟩) fun _ _ z => False.elim z
theorem PT.nox {e : Expr} {t : TT} (h : PT X.nox e t) : PT X e t := fun pins s σ H Q I hw =>
  wpAny_mono (h pins s σ H Q (I.wish _) hw) (fun _ _ ⟨H', I', q⟩ => ⟨H', I'.unwish, q⟩) fun _ _ z => False.elim z
theorem PSs.nox {st : List Stmt} {t : TS} (h : PSs X.nox st t) : PSs X st t := fun pins s σ H D I hw =>
  wpAny_mono (h pins s σ H D (I.wish _) hw) (fun _ _ q => q.unwish) fun _ _ z => False.elim z
end
section
variable {X : Cx} {st : Stmt} {rest : List Stmt} {t u : TS} {e : Expr} {te : TE} {pos : Pos}
def tNext : TS := fun D σ H => D.nx σ H
def tSeq (t u : TS) : TS := fun D σ H => t { D with nx := u D } σ H
theorem pss_nil : PSs X [] tNext := fun _ _ σ H _ I h => wpAny_execs_nil ⟨σ, H, I, h⟩
theorem pss_cons (h1 : PS X st t) (h2 : PSs X rest u) : PSs X (st :: rest) (tSeq t u) := by
  intro pins s σ H D I h
  refine wpAny_execs_cons (thn (h1 pins s σ H { D with nx := u D } I h) fun f s1 q => ?_)
  cases f with
  | next =>
    obtain ⟨σ', H', I', q⟩ := q
    exact h2 pins s1 σ' H' D I' q
  | ret v => exact q
  | brk => exact q
  | cont => exact q
theorem pss_one (h1 : PS X st t) : PSs X [st] t := by
  intro pins s σ H D I h
  refine wpAny_execs_cons (thn (h1 pins s σ H D I h) fun f s1 q => ?_)
  cases f with
  | next => exact wpAny_execs_nil q
  | ret v => exact q
  | brk => exact q
  | cont => exact q
def tBreak : TS := fun D σ H => D.bk σ H
def tCont : TS := fun D σ H => D.ct σ H
theorem Inv.quiet {pins : List (Addr × Obj)} {σ : St} {H : Hp} {s : Shared} (I : Inv X pins σ H s) : interactive X.env = false := by simp [interactive, I.ok.kind]
def tDrop (te : TE) : TS := fun D σ H => te σ H fun _ H1 => D.nx σ H1
theorem ps_expr (he : PE X e te) (hs : swapsWith e none pos.line X.env = pure false := by rfl) : PS X (.Expr e pos) (tDrop te) := by
  intro pins s σ H D I h
  exact wpAny_Expr_any (thn (he pins s σ H _ I h) fun v s1 ⟨x, H1, I1, r1, q1⟩ => ⟨σ, H1, I1, q1⟩) I.quiet hs
def tRet (te : TE) : TS := fun D σ H => te σ H D.rt
theorem ps_ret (he : PE X e te) : PS X (.Return (some e) pos) (tRet te) := by
  intro pins s σ H D I h
  exact wpAny_Return_some (thn (he pins s σ H _ I h) fun v s1 ⟨x, H1, I1, r1, q1⟩ => ⟨x, σ, H1, I1, r1, q1⟩)
def tRetN : TS := fun D _ H => D.rt .non H
def tIfS (c : TT) (t u : TS) : TS := fun D σ H => c σ H fun b H1 => if b = true then t D σ H1 else u D σ H1
theorem ps_if {c : Expr} {a b : List Stmt} {tc : TT} (hc : PT X c tc) (ha : PSs X a t) (hb : PSs X b u) : PS X (.If c a b pos) (tIfS tc t u) := by
  intro pins s σ H D I h
  refine wpAny_If (thn (hc pins s σ H _ I h) fun d s1 ⟨H1, I1, q1⟩ => ?_)
  cases d with
  | true => exact ha pins s1 σ H1 D I1 q1
  | false => exact hb pins s1 σ H1 D I1 q1
def tNever : TS := fun _ _ _ => False
end
abbrev TG := V → St → Hp → (St → Hp → Prop) → Prop
abbrev TGs := List V → St → Hp → (St → Hp → Prop) → Prop
def PG (X : Cx) (target : Expr) (t : TG) : Prop :=
  ∀ (pins : List (Addr × Obj)) (s : Shared) (σ : St) (H : Hp) (v : V) (u : Value) (Q : St → Hp → Prop), Inv X pins σ H s → RelV v u → t v σ H Q →
    wpAny (model X.prog X.w) X.A (assign target X.env u) (fun _ s' => ∃ σ' H', Inv X pins σ' H' s' ∧ Q σ' H') X.xe s
def PGs (X : Cx) (ts : List Expr) (t : TGs) : Prop :=
  ∀ (pins : List (Addr × Obj)) (s : Shared) (σ : St) (H : Hp) (vs : List V) (us : List Value) (Q : St → Hp → Prop), Inv X pins σ H s → Vals vs us → t vs σ H Q →
    wpAny (model X.prog X.w) X.A (assignInOrder ((assignEach ts X.env).map (·.2)) us) (fun _ s' => ∃ σ' H', Inv X pins σ' H' s' ∧ Q σ' H') X.xe s
abbrev TSet := V → V → V → Hp → (Hp → Prop) → Prop
def PSet (X : Cx) (t : TSet) : Prop :=
  ∀ (pins : List (Addr × Obj)) (s : Shared) (σ : St) (H : Hp) (o i v : V) (ov iv u : Value) (Q : Hp → Prop), Inv X pins σ H s → RelV o ov → RelV i iv → RelV v u → t o i v H Q →
    wpAny (model X.prog X.w) X.A (setItem ov iv u) (fun _ s' => ∃ H', Inv X pins σ H' s' ∧ Q H') X.xe s
abbrev TIp := V → V → Hp → VK → Prop
def PIp (X : Cx) (op : Operator) (t : TIp) : Prop :=
  ∀ (pins : List (Addr × Obj)) (s : Shared) (σ : St) (H : Hp) (x y : V) (v u : Value) (Q : VK), Inv X pins σ H s → RelV x v → RelV y u → t x y H Q →
    wpAny (model X.prog X.w) X.A (inplaceOp op v u) (EP X pins σ Q) X.xe s
section
variable {X : Cx} {pos : Pos}
def gName (i : Nat) : TG := fun v σ H Q => Q (σ.set i (some v)) H
theorem pg_name {i : Nat} {x : Str} (hN : X.N.Nodup) (hi : X.N[i]? = some x) (hx : Loc X.env.scope x) (hf : X.fn x = true ∨ X.env.scope.names.lookup x = some .local := by first | exact .inl rfl | exact .inr rfl | assumption) : PG X (.Name x pos) (gName i) := by
  intro pins s σ H v u Q I r h
  exact wpAny_assign_Name (store_ok I hN hi hx r (fun s' I' => ⟨_, H, I', h⟩) hf)
def gNil : TGs := fun vs σ H Q => vs = [] ∧ Q σ H
def gCons (t : TG) (u : TGs) : TGs := fun vs σ H Q => ∃ v r, vs = v :: r ∧ t v σ H fun σ' H' => u r σ' H' Q
theorem pgs_nil : PGs X [] gNil := by
  intro pins s σ H vs us Q I r h
  obtain ⟨e, h⟩ := h
  subst e
  cases r
  exact assignInOrder_nil ⟨σ, H, I, h⟩
theorem pgs_cons {e : Expr} {es : List Expr} {t : TG} {u : TGs} (h1 : PG X e t) (h2 : PGs X es u)
    (hs : (assignEach (e :: es) X.env).map (·.2) = assign e X.env :: (assignEach es X.env).map (·.2) := by rfl) : PGs X (e :: es) (gCons t u) := by
  intro pins s σ H vs us Q I r h
  obtain ⟨v, vr, e1, h⟩ := h
  subst e1
  cases r with
  | cons r rr =>
    rw [hs]
    refine assignInOrder_cons (thn (h1 pins s σ H _ _ _ I r h) fun _ s1 ⟨σ1, H1, I1, q1⟩ => ?_)
    exact h2 pins s1 σ1 H1 _ _ Q I1 rr q1
def gTup (K : PySem.W.Frag) (n : Nat) (t : TGs) : TG := fun v σ H Q => ∃ a xs, v = .ref a ∧ SqT K H a xs ∧ xs.length = n ∧ t xs σ H Q
theorem pg_tup {es : List Expr} {k : Nat} {t : TGs} {n : Nat} (hc : X.calm = true) (h : PGs X es t)
    (hn : (assignEach es X.env).length = n := by rfl) (hst : (assignEach es X.env).findIdx? (·.1) = none := by rfl) : PG X (.Tuple es k pos) (gTup X.K n t) := by
  intro pins s σ H v u Q I r hw
  obtain ⟨a, xs, e1, hq, hl, hw⟩ := hw
  subst e1
  cases r
  obtain ⟨its, rv, ht, hz⟩ := I.tuple hq
  refine assign_Tuple_tuple (I.ok.hd hc) ht (by simp [hn, ← hl, rv.length]) hst fun h' hx => ?_
  have I1 : Inv X pins σ H { s with heap := h' } := I.kept (t' := s.toks) fun b o e => hx b o (Nat.ne_of_lt (Heap.lt_size e)) e
  exact h pins _ σ H xs _ Q I1 (by simpa using rv) hw
def gSub (to ti : TE) (t : TSet) : TG := fun v σ H Q => to σ H fun o H1 => ti σ H1 fun i H2 => t o i v H2 fun H3 => Q σ H3
def tAsg (te : TE) (g : TG) : TS := fun D σ H => te σ H fun x H1 => g x σ H1 D.nx
theorem ps_asg {tg e : Expr} {te : TE} {g : TG} (he : PE X e te) (hg : PG X tg g) (hs : swapsWithSole [tg] e pos.line X.env = pure false := by rfl) (hw : swappedStores [tg] e X.env = pure none := by rfl)
    (h1 : (assignEach [tg] X.env).map (·.2) = [assign tg X.env] := by rfl) : PS X (.Assign [tg] e pos) (tAsg te g) := by
  intro pins s σ H D I h
  refine wpAny_Assign_stores (thn (he pins s σ H _ I h) fun v s1 ⟨x, H1, I1, r1, q1⟩ => ?_) hs hw
  rw [h1]
  exact thn (hg pins s1 σ H1 x v _ I1 r1 q1) fun _ s2 q => q
theorem ps_set {i : Nat} {x : Str} {e : Expr} {te : TE} {pos' : Pos} (hN : X.N.Nodup) (hi : X.N[i]? = some x) (hx : Loc X.env.scope x) (he : PE X e te) (hs : swapsWith e (some (.Name x pos')) pos.line X.env = pure false := by rfl) (hf : X.fn x = true ∨ X.env.scope.names.lookup x = some .local := by first | exact .inl rfl | exact .inr rfl | assumption) :
    PS X (.Assign [.Name x pos'] e pos) (tAsg te (gName i)) := by
  intro pins s σ H D I h
  refine wpAny_Assign_Name (thn (he pins s σ H _ I h) fun v s1 ⟨y, H1, I1, r1, q1⟩ => ?_) hs
  exact store_ok I1 hN hi hx r1 (fun s2 I2 => ⟨_, H1, I2, q1⟩) hf
def tPar (i j : Nat) (ta : TA) : TS := fun D σ H => ta σ H fun vs H1 => ∃ v w, vs = [v, w] ∧ D.nx ((σ.set i (some v)).set j (some w)) H1
def tAug (i : Nat) (te : TE) (ti : TIp) : TS := fun D σ H => ∃ x, σ[i]? = some (some x) ∧ te σ H fun y H1 => ti x y H1 fun z H2 => D.nx (σ.set i (some z)) H2
def tAugS (to ti te : TE) (tget : V → V → Hp → VK → Prop) (tip : TIp) (tset : TSet) : TS := fun D σ H => to σ H fun o H1 => ti σ H1 fun i H2 => tget o i H2 fun x H3 => te σ H3 fun y H4 => tip x y H4 fun z H5 => tset o i z H5 fun H6 => D.nx σ H6
def PGet (X : Cx) (t : V → V → Hp → VK → Prop) : Prop :=
  ∀ (pins : List (Addr × Obj)) (s : Shared) (σ : St) (H : Hp) (o i : V) (ov iv : Value) (Q : VK), Inv X pins σ H s → RelV o ov → RelV i iv → t o i H Q →
    wpAny (model X.prog X.w) X.A (getItem ov iv) (EP X pins σ Q) X.xe s
def ipI (f : Int → Int → Int) : TIp := fun x y H Q => ∃ i j, x = .int i ∧ y = .int j ∧ Q (.int (f i j)) H
end
section
variable {X : Cx} {pos : Pos}
def tWhile (c : TT) (tb : TS) : TS := fun D σ H => ∃ W : Nat → St → Hp → Prop, (∃ m, W m σ H) ∧ ∀ m σ H, W m σ H →
  c σ H fun b H1 => if b = true then ∃ N : St → Hp → Prop, (∀ σ' H', N σ' H' → ∃ m', m' < m ∧ W m' σ' H') ∧ tb { D with nx := N, ct := N, bk := D.nx } σ H1 else D.nx σ H1
end
structure It where
  go : Nat → Hp → Prop
  yld : Nat → Hp → V → Hp → Prop
  stop : Nat → Hp → Prop
def FpOk (X : Cx) (pins : List (Addr × Obj)) (H : Hp) (b : Addr) : Prop :=
  H b = none ∧ b ≠ X.env.locals ∧ b ∉ X.fs ∧ (b ∈ X.ex ∨ X.s₀.heap.objs.size ≤ b) ∧ (∀ x c, X.env.cells.lookup x = some c → c ≠ b) ∧ ∀ p ∈ X.pn ++ pins, p.1 ≠ b
theorem Inv.fpOk {X : Cx} {pins : List (Addr × Obj)} {σ : St} {H H' : Hp} {s : Shared} {b : Addr} (I : Inv X pins σ H s) (hb : s.heap.objs.size ≤ b) (hn : H' b = none) : FpOk X pins H' b := by
  refine ⟨hn, Nat.ne_of_gt (Nat.lt_of_lt_of_le I.lt hb), I.nofs hb, .inr (Nat.le_trans I.sz hb), fun x c e z => ?_, fun p hp z => ?_⟩
  · obtain ⟨v, q⟩ := I.cell x c e
    exact absurd (Nat.lt_of_lt_of_le q.lt (by rw [z]; exact hb)) (Nat.lt_irrefl _)
  · exact absurd (Nat.lt_of_lt_of_le (Heap.lt_size (I.pin p hp).1) (by rw [z]; exact hb)) (Nat.lt_irrefl _)
structure Turn (P : Program) (w : World) (K : PySem.W.Frag) (tg : Expr) (J : It) (fp : List Addr) (it : Addr) (tn : Nat → Heap → Prop) : Prop where
  mem : it ∈ fp
  obj : ∀ i h, tn i h → ∀ b ∈ fp, ∃ o, h.get? b = some o ∧ ∀ v, o.data ≠ .cell v
  keep : ∀ i h h', tn i h → (∀ b ∈ fp, ∀ o, h.get? b = some o → h'.get? b = some o) → tn i h'
  item : ∀ (X : Cx), X.prog = P → X.w = w → X.K = K → X.calm = true → ∀ (i : Nat) (pins : List (Addr × Obj)) (s : Shared) (σ : St) (H : Hp) (E : Value → Shared → Prop), Inv X pins σ H s → (∀ b ∈ fp, FpOk X pins H b) → tn i s.heap → J.go i H →
    wpAny (model P w) X.A (pyNext (.ref it)) (fun r s1 => ∃ u, r = some u ∧
      wpAny (model P w) X.A (letOwnedTupleGo tg (.ref it) u) (fun _ s2 => ∃ x H', Inv X pins σ H' s2 ∧ RelV x u ∧ J.yld i H x H' ∧ tn (i + 1) s2.heap ∧ ∀ b ∈ fp, H' b = none) E s1) E s
  done : ∀ (X : Cx), X.prog = P → X.w = w → X.K = K → X.calm = true → ∀ (i : Nat) (pins : List (Addr × Obj)) (s : Shared) (σ : St) (H : Hp) (E : Value → Shared → Prop), Inv X pins σ H s → (∀ b ∈ fp, FpOk X pins H b) → tn i s.heap → J.stop i H →
    wpAny (model P w) X.A (pyNext (.ref it)) (fun r s1 => r = none ∧ Inv X pins σ H s1) E s
  self : ∀ (A : Around) (i : Nat) (s : Shared) (Q : Value → Shared → Prop) (E : Value → Shared → Prop), tn i s.heap → Q (.ref it) s → wpAny (model P w) A (pyIter (.ref it)) Q E s
abbrev TI := St → Hp → (It → Hp → Prop) → Prop
def PIE (X : Cx) (pins : List (Addr × Obj)) (σ : St) (tg : Expr) (R : It → Hp → Prop) (itv : Value) (s2 : Shared) : Prop :=
  ∃ (it : Addr) (fp : List Addr) (tn : Nat → Heap → Prop) (J : It) (H' : Hp), itv = .ref it ∧ Inv X pins σ H' s2 ∧ Turn X.prog X.w X.K tg J fp it tn ∧ tn 0 s2.heap ∧ (∀ b ∈ fp, FpOk X pins H' b) ∧ R J H'
def PI (X : Cx) (tg iter : Expr) (wi : TI) : Prop :=
  ∀ (pins : List (Addr × Obj)) (s : Shared) (σ : St) (H : Hp) (R : It → Hp → Prop), Inv X pins σ H s → wi σ H R →
    wpAny (model X.prog X.w) X.A (eval iter X.env) (fun v s1 => wpAny (model X.prog X.w) X.A (pyIter v) (PIE X pins σ tg R) X.xe s1) X.xe s
theorem go_of {M : Model} {A : Around} {E : Value → Shared → Prop} {s : Shared} {tg : Expr} {it : Addr} {u : Value} {o : Obj} {n : String} {vs : Array Value} {Q : Unit → Shared → Prop} (ho : s.heap.get? it = some o) (hc : o.cls = .type n) (hd : o.data = .fields vs)
    (hn : ["enumerate", "zip", "dict_itemiterator", "dict_reverseitemiterator", "odict_iterator", "itertools.zip_longest", "itertools.pairwise"].contains n = false) (hQ : Q () s) : wpAny M A (letOwnedTupleGo tg (.ref it) u) Q E s := by
  unfold letOwnedTupleGo
  cases tg <;> first
    | exact wpAny_pure hQ
    | (cases u <;> first
        | exact wpAny_pure hQ
        | (refine wpAny_bind (wpAny_load ho ?_)
           rw [hc, hd]
           show wpAny M A (if (["enumerate", "zip", "dict_itemiterator", "dict_reverseitemiterator", "odict_iterator", "itertools.zip_longest", "itertools.pairwise"].contains n && vs[0]? == some (rawInt _)) = true then _ else _) Q E s
           rw [if_neg (by intro h; rw [hn, Bool.false_and] at h; cases h)]
           exact wpAny_pure hQ))
def Itl (K : PySem.W.Frag) (a : Addr) : It :=
  ⟨fun i H => ∃ xs x, SqL K H a xs ∧ xs[i]? = some x, fun i H x H' => H' = H ∧ ∀ xs, SqL K H a xs → xs[i]? = some x, fun i H => ∃ xs, SqL K H a xs ∧ xs.length ≤ i⟩
def Itt (K : PySem.W.Frag) (a : Addr) : It :=
  ⟨fun i H => ∃ xs x, SqT K H a xs ∧ xs[i]? = some x, fun i H x H' => H' = H ∧ ∀ xs, SqT K H a xs → xs[i]? = some x, fun i H => ∃ xs, SqT K H a xs ∧ xs.length ≤ i⟩
def Itr (lo : Int) (n : Nat) : It := ⟨fun i _ => i < n, fun i H x H' => H' = H ∧ x = .int (lo + i), fun i _ => n ≤ i⟩
theorem turn_list {P : Program} {w : World} {K : PySem.W.Frag} {tg : Expr} (a it : Addr) : Turn P w K tg (Itl K a) [it] it (fun i h => h.IsListIter it a i) where
  mem := by simp
  obj := fun i h st b hb => by
    have e : b = it := by simpa using hb
    subst e
    obtain ⟨o, e, c, d⟩ := st
    exact ⟨o, e, fun v z => by rw [d] at z; cases z⟩
  keep := fun i h h' st k => st.at fun o e => k it (by simp) o e
  item := by
    intro X hP hw hK hc i pins s σ H E I hf st hg
    subst hP hw hK
    obtain ⟨xs, x, hq, hx⟩ := hg
    obtain ⟨its, rv, p, hz⟩ := I.list hq
    obtain ⟨u, hu, ru⟩ := rv.get hx
    obtain ⟨f0, f1, f2, f3, f4, f5⟩ := hf it (by simp)
    refine wpAny_pyNext_list_item st p.isList (x := u) (by simpa using hu) fun h' st' sb => ?_
    have I1 : Inv X pins σ H { s with heap := h' } := I.turned (t' := s.toks) (fun b o hb e => (sb.2 b hb).trans e) f0 f1 f3 f4 f5
    obtain ⟨o, e, c, d⟩ := id st'
    exact ⟨u, rfl, go_of (s := { s with heap := h' }) e c d (by decide) ⟨x, H, I1, ru, ⟨rfl, fun ys hy => by rw [I.list_inj hy hq]; exact hx⟩, st', fun b hb => (hf b hb).1⟩⟩
  done := by
    intro X hP hw hK hc i pins s σ H E I hf st hg
    subst hP hw hK
    obtain ⟨xs, hq, hx⟩ := hg
    obtain ⟨its, rv, p, hz⟩ := I.list hq
    obtain ⟨f0, f1, f2, f3, f4, f5⟩ := hf it (by simp)
    have hl := rv.length
    exact wpAny_pyNext_list_end (I.ok.hd hc) st p.isList (by simp; omega) fun h' eb => ⟨rfl, I.turned (t' := s.toks) (fun b o hb e => eb b o hb e) f0 f1 f3 f4 f5⟩
  self := fun _ _ _ _ _ st h => wpAny_pyIter_listiter st h
theorem turn_range {P : Program} {w : World} {K : PySem.W.Frag} {tg : Expr} (it : Addr) (lo : Int) (n : Nat) : Turn P w K tg (Itr lo n) [it] it (fun i h => IsRangeIter h it (lo + (i : Nat) * 1) ((n : Int) - (i : Nat)) 1) where
  mem := by simp
  obj := fun i h st b hb => by
    have e : b = it := by simpa using hb
    subst e
    exact ⟨_, st, fun v z => by
      have z' : Data.fields _ = Data.cell v := z
      cases z'⟩
  keep := fun i h h' st k => k it (by simp) _ st
  item := by
    intro X hP hw hK hc i pins s σ H E I hf st hg
    subst hP hw hK
    obtain ⟨f0, f1, f2, f3, f4, f5⟩ := hf it (by simp)
    have W := Walks.range (prog := X.prog) (w := X.w) (I.ok.hd hc) it lo 1 n
    refine W.item i s _ _ hg st fun v h' tk hv st' kk => ?_
    obtain ⟨t, rfl⟩ := hv
    have I1 : Inv X pins σ H { s with heap := h', toks := tk } := I.turned (fun b o hb e => kk b o (by simpa using hb) e) f0 f1 f3 f4 f5
    refine ⟨_, rfl, go_of (s := { s with heap := h', toks := tk }) (n := "range_iterator") st' rfl rfl (by decide) ⟨.int (lo + i), H, I1, ⟨t, ?_⟩, ⟨rfl, rfl⟩, st', fun b hb => (hf b hb).1⟩⟩
    rw [Int.mul_one]
  done := by
    intro X hP hw hK hc i pins s σ H E I hf st hg
    subst hP hw hK
    obtain ⟨f0, f1, f2, f3, f4, f5⟩ := hf it (by simp)
    exact wpAny_pyNext_range_end (I.ok.hd hc) st (by have : n ≤ i := hg; omega) fun h' eb => ⟨rfl, I.turned (t' := s.toks) (fun b o hb e => eb b o hb e) f0 f1 f3 f4 f5⟩
  self := fun _ _ _ _ _ st h => wpAny_pyIter_rangeiter st h
end L2
namespace L2
open PySem PySem.Spec PyProof.Rows
section
variable {X : Cx} {tg : Expr}
def iList (K : PySem.W.Frag) (tl : TE) : TI := fun σ H R => tl σ H fun x H1 => ∃ a, x = .ref a ∧ (∃ xs, SqL K H1 a xs) ∧ R (Itl K a) H1
def iTup (K : PySem.W.Frag) (tl : TE) : TI := fun σ H R => tl σ H fun x H1 => ∃ a, x = .ref a ∧ (∃ xs, SqT K H1 a xs) ∧ R (Itt K a) H1
theorem pi_list {l : Expr} {tl : TE} (hl : PE X l tl) : PI X tg l (iList X.K tl) := by
  intro pins s σ H R I h
  refine thn (hl pins s σ H _ I h) fun v s1 ⟨x, H1, I1, r1, q1⟩ => ?_
  obtain ⟨a, e, ⟨xs, hq⟩, q⟩ := q1
  subst e
  cases r1
  obtain ⟨its, rv, p, hz⟩ := I1.list hq
  refine wpAny_pyIter_list p.isList ?_
  refine ⟨s1.heap.objs.size, [s1.heap.objs.size], _, _, H1, rfl, I1.kept (t' := s1.toks) fun b o e => Heap.get?_push_of_some _ e, turn_list a _, ⟨_, Heap.get?_push_size _ rfl, rfl, rfl⟩, fun b hb => ?_, q⟩
  have e : b = s1.heap.objs.size := by simpa using hb
  subst e
  exact I1.fpOk (Nat.le_refl _) (I1.hok.fresh (Nat.le_refl _))
theorem range_it {pins : List (Addr × Obj)} {σ : St} {H : Hp} {s : Shared} {R : It → Hp → Prop} {E : Value → Shared → Prop} {lo hi : Int} {t u v : Tok} {tk : Nat} (I : Inv X pins σ H s) (h1 : -(2 ^ 62) ≤ lo) (h2 : lo < 2 ^ 62) (h3 : -(2 ^ 62) ≤ hi) (h4 : hi < 2 ^ 62)
    (q : R (Itr lo (hi - lo).toNat) H) : wpAny (model X.prog X.w) X.A (pyIter (.ref s.heap.objs.size)) (PIE X pins σ tg R) E { s with heap := s.heap.push { cls := .type "range", data := .fields #[.int lo t, .int hi u, .int 1 v] }, toks := tk } := by
  refine wpAny_pyIter_range (IsRange.new ..) (small_one h1 h2 h3 h4) ?_
  have I1 : Inv X pins σ H { s with heap := s.heap.push { cls := .type "range", data := .fields #[.int lo t, .int hi u, .int 1 v] }, toks := tk } := I.kept fun b o e => Heap.get?_push_of_some _ e
  refine ⟨(s.heap.push { cls := .type "range", data := .fields #[.int lo t, .int hi u, .int 1 v] }).objs.size, [(s.heap.push { cls := .type "range", data := .fields #[.int lo t, .int hi u, .int 1 v] }).objs.size], _, _, H, rfl,
    I1.kept (t' := tk) fun b o e => Heap.get?_push_of_some _ e, turn_range _ lo (hi - lo).toNat, ?_, fun b hb => ?_, q⟩
  · have e1 : lo + ((0 : Nat) : Int) * 1 = lo := by simp
    have e2 : (((hi - lo).toNat : Nat) : Int) - ((0 : Nat) : Int) = Builtin.Range.rangeSize lo hi 1 := by rw [rangeSize_one]; split <;> omega
    show IsRangeIter _ _ (lo + ((0 : Nat) : Int) * 1) ((((hi - lo).toNat : Nat) : Int) - ((0 : Nat) : Int)) 1
    rw [e1, e2]
    exact Heap.get?_push_size _ rfl
  · have e : b = (s.heap.push { cls := .type "range", data := .fields #[.int lo t, .int hi u, .int 1 v] }).objs.size := by simpa using hb
    subst e
    exact I1.fpOk (Nat.le_refl _) (I1.hok.fresh (Nat.le_refl _))
def iRng1 (ta : TA) : TI := fun σ H R => ta σ H fun vs H1 => ∃ j : Int, vs = [.int j] ∧ -(2 ^ 62) ≤ j ∧ j < 2 ^ 62 ∧ R (Itr 0 j.toNat) H1
def iRng2 (ta : TA) : TI := fun σ H R => ta σ H fun vs H1 => ∃ i j : Int, vs = [.int i, .int j] ∧ (-(2 ^ 62) ≤ i ∧ i < 2 ^ 62 ∧ -(2 ^ 62) ≤ j ∧ j < 2 ^ 62) ∧ R (Itr i (j - i).toNat) H1
theorem pi_range1 {a : Expr} {ta : TA} {p pos : Pos} (hg : Gl X "range") (hm : X.mg "range" = none) (ha : PA X [a] ta) (hs : starEach [a] X.env = [(false, eval a X.env)] := by rfl) : PI X tg (.Call (.Name "range" p) [a] [] pos) (iRng1 ta) := by
  intro pins s σ H R I h
  refine Call_ (ld_blt I hg hm boot_range (PyProof.Rows.callWith_type1 (thn (ha pos pins s σ H _ I h) fun us s1 ⟨vs, H1, I1, r1, q1⟩ => ?_) hs rfl))
  obtain ⟨j, e, q1, q2, q⟩ := q1
  subst e
  cases r1 with
  | cons r rr =>
    cases rr
    obtain ⟨t, rfl⟩ := r
    exact call_range_1 (range_it I1 (by omega) (by omega) q1 q2 (by simpa using q))
def tFor (wi : TI) (g : TG) (tb : TS) : TS := fun D σ H => wi σ H fun J H1 => ∃ W : Nat → Nat → St → Hp → Prop, (∃ m, W 0 m σ H1) ∧ ∀ i m σ H, W i m σ H →
  (J.stop i H ∧ D.nx σ H) ∨ (J.go i H ∧ ∃ N : St → Hp → Prop, (∀ σ' H', N σ' H' → ∃ m', m' < m ∧ W (i + 1) m' σ' H') ∧ ∀ x H', J.yld i H x H' → g x σ H' fun σ2 H2 => tb { D with nx := N, ct := N, bk := D.nx } σ2 H2)
def pinsAt (fp : List Addr) (h : Heap) : List (Addr × Obj) := fp.filterMap fun b => (h.get? b).map fun o => (b, o)
theorem mem_pinsAt {fp : List Addr} {h : Heap} {b : Addr} {o : Obj} (hb : b ∈ fp) (e : h.get? b = some o) : (b, o) ∈ pinsAt fp h := List.mem_filterMap.mpr ⟨b, hb, by rw [e]; rfl⟩
theorem of_pinsAt {fp : List Addr} {h : Heap} {p : Addr × Obj} (hp : p ∈ pinsAt fp h) : p.1 ∈ fp ∧ h.get? p.1 = some p.2 := by
  obtain ⟨b, hb, e⟩ := List.mem_filterMap.mp hp
  cases q : h.get? b with
  | none => rw [q] at e; cases e
  | some o =>
    rw [q] at e
    have e' : (b, o) = p := Option.some.inj e
    subst e'
    exact ⟨hb, q⟩
theorem Inv.pinned {pins : List (Addr × Obj)} {σ : St} {H : Hp} {s : Shared} {fp : List Addr} (I : Inv X pins σ H s) (hf : ∀ b ∈ fp, FpOk X pins H b) (ho : ∀ b ∈ fp, ∃ o, s.heap.get? b = some o ∧ ∀ v, o.data ≠ .cell v) : Inv X (pins ++ pinsAt fp s.heap) σ H s :=
  I.pins_of fun p hp => (List.mem_append.mp hp).elim (fun z => I.pin p (List.mem_append_right _ z)) fun z => by
    obtain ⟨hb, e⟩ := of_pinsAt z
    obtain ⟨f0, f1, f2, _⟩ := hf p.1 hb
    obtain ⟨o, e', d⟩ := ho p.1 hb
    rw [e] at e'; cases e'
    exact ⟨e, f0, f1, f2, d⟩
theorem Inv.unpinned {pins pl : List (Addr × Obj)} {σ : St} {H : Hp} {s : Shared} (I : Inv X (pins ++ pl) σ H s) : Inv X pins σ H s := I.pins_of fun p hp => I.pin p (List.mem_append_right _ (List.mem_append_left _ hp))
theorem ps_for {iter : Expr} {body : List Stmt} {wi : TI} {g : TG} {tb : TS} {pos : Pos} (hp : PassesOwn (model X.prog X.w) X.A X.env X.xe) (hc : X.calm = true) (hi : PI X tg iter wi) (hg : PG X tg g) (hb : PSs X body tb)
    (hs : ∀ x, foldedSetIterable iter X.env x = pure x := by intro _; rfl) : PS X (.For tg iter body [] pos) (tFor wi g tb) := by
  intro pins s σ H D I h
  refine wpAny_For (thn (hi pins s σ H _ I h) fun v s1 h1 => thn h1 fun itv s2 h2 => ?_) hs
  obtain ⟨it, fp, tn, J, H2, e, I2, T, st2, f2, W, ⟨m0, w0⟩, turn⟩ := h2
  subst e
  have stat : ∀ {H' : Hp}, (∀ b ∈ fp, H' b = none) → ∀ b ∈ fp, FpOk X pins H' b := fun hn b hb => ⟨hn b hb, (f2 b hb).2⟩
  refine codeAny_forLoop_any (fun n s' => ∃ i σ' H', Inv X pins σ' H' s' ∧ tn i s'.heap ∧ (∀ b ∈ fp, H' b = none) ∧ W i n σ' H') ?_ m0 ⟨0, σ, H2, I2, st2, fun b hb => (f2 b hb).1, w0⟩
  rintro n s3 ⟨i, σ3, H3, I3, st3, fr3, w3⟩
  rcases turn i n σ3 H3 w3 with ⟨stop, qn⟩ | ⟨go, N, hN, step⟩
  · refine wpAny_passesOwn hp (thn (T.done X rfl rfl rfl hc i pins s3 σ3 H3 X.xe I3 (stat fr3) st3 stop) fun r s4 ⟨hr, I4⟩ => ?_)
    subst hr
    exact wpAny_execs_nil ⟨σ3, H3, I4, qn⟩
  · refine wpAny_passesOwn hp (thn (T.item X rfl rfl rfl hc i pins s3 σ3 H3 X.xe I3 (stat fr3) st3 go) fun r s4 ⟨u, hr, h4⟩ => ?_)
    subst hr
    refine wpAny_passesOwn hp (thn h4 fun _ s5 ⟨x, H5, I5, r5, y5, st5, fr5⟩ => ?_)
    have I5' := I5.pinned (stat fr5) (T.obj _ _ st5)
    refine wpAny_passesOwn hp (thn (hg _ s5 σ3 H5 x u _ I5' r5 (step x H5 y5)) fun _ s6 ⟨σ6, H6, I6, q6⟩ => ?_)
    refine wpAny_passesOwn hp (thn (hb _ s6 σ6 H6 _ I6 q6) fun f s7 q7 => ?_)
    have again : ∀ {σ7 : St} {H7 : Hp}, Inv X (pins ++ pinsAt fp s5.heap) σ7 H7 s7 → N σ7 H7 → ∃ m, m < n ∧ ∃ i σ' H', Inv X pins σ' H' s7 ∧ tn i s7.heap ∧ (∀ b ∈ fp, H' b = none) ∧ W i m σ' H' := fun {σ7 H7} I7 n7 => by
      obtain ⟨m', hm, w7⟩ := hN σ7 H7 n7
      refine ⟨m', hm, i + 1, σ7, H7, I7.unpinned, T.keep _ _ _ st5 fun b hb o e => (I7.pin (b, o) (List.mem_append_right _ (List.mem_append_right _ (mem_pinsAt hb e)))).1, fun b hb => ?_, w7⟩
      obtain ⟨o, e, d⟩ := T.obj _ _ st5 b hb
      exact (I7.pin (b, o) (List.mem_append_right _ (List.mem_append_right _ (mem_pinsAt hb e)))).2.1
    cases f with
    | next => obtain ⟨σ7, H7, I7, n7⟩ := q7; exact again I7 n7
    | cont => obtain ⟨σ7, H7, I7, n7⟩ := q7; exact again I7 n7
    | brk => obtain ⟨σ7, H7, I7, q7⟩ := q7; exact ⟨σ7, H7, I7.unpinned, q7⟩
    | ret v => obtain ⟨x7, σ7, H7, I7, r7, q7⟩ := q7; exact ⟨x7, σ7, H7, I7.unpinned, r7, q7⟩
end
theorem for_list {K : PySem.W.Frag} {a : Addr} {xs : List V} {g : TG} {tb : TS} {D : Ends} {σ : St} {H : Hp} (Pv : Nat → St → Hp → Prop) (h0 : Pv 0 σ H) (hl : ∀ i σ H, i ≤ xs.length → Pv i σ H → SqL K H a xs)
    (hs : ∀ i x σ H, xs[i]? = some x → Pv i σ H → g x σ H fun σ2 H2 => tb { D with nx := Pv (i + 1), ct := Pv (i + 1), bk := D.nx } σ2 H2) (hd : ∀ σ H, Pv xs.length σ H → D.nx σ H) :
    ∃ W : Nat → Nat → St → Hp → Prop, (∃ m, W 0 m σ H) ∧ ∀ i m σ H, W i m σ H →
      ((Itl K a).stop i H ∧ D.nx σ H) ∨ ((Itl K a).go i H ∧ ∃ N : St → Hp → Prop, (∀ σ' H', N σ' H' → ∃ m', m' < m ∧ W (i + 1) m' σ' H') ∧ ∀ x H', (Itl K a).yld i H x H' → g x σ H' fun σ2 H2 => tb { D with nx := N, ct := N, bk := D.nx } σ2 H2) := by
  refine ⟨fun i m σ H => m = xs.length - i ∧ i ≤ xs.length ∧ Pv i σ H, ⟨xs.length, by simp, Nat.zero_le _, h0⟩, ?_⟩
  rintro i m σ H ⟨rfl, hi, p⟩
  have q := hl i σ H hi p
  by_cases hlt : i < xs.length
  · refine .inr ⟨⟨xs, xs[i], q, by simp [hlt]⟩, Pv (i + 1), fun σ' H' p' => ⟨xs.length - (i + 1), by omega, rfl, hlt, p'⟩, fun x H' y => ?_⟩
    obtain ⟨e, y⟩ := y
    subst e
    exact hs i x σ _ (y xs q) p
  · have e : i = xs.length := by omega
    subst e
    exact .inl ⟨⟨xs, q, Nat.le_refl _⟩, hd σ H p⟩
theorem for_range {lo : Int} {n : Nat} {g : TG} {tb : TS} {D : Ends} {σ : St} {H : Hp} (Pv : Nat → St → Hp → Prop) (h0 : Pv 0 σ H)
    (hs : ∀ i σ H, i < n → Pv i σ H → g (.int (lo + i)) σ H fun σ2 H2 => tb { D with nx := Pv (i + 1), ct := Pv (i + 1), bk := D.nx } σ2 H2) (hd : ∀ σ H, Pv n σ H → D.nx σ H) :
    ∃ W : Nat → Nat → St → Hp → Prop, (∃ m, W 0 m σ H) ∧ ∀ i m σ H, W i m σ H →
      ((Itr lo n).stop i H ∧ D.nx σ H) ∨ ((Itr lo n).go i H ∧ ∃ N : St → Hp → Prop, (∀ σ' H', N σ' H' → ∃ m', m' < m ∧ W (i + 1) m' σ' H') ∧ ∀ x H', (Itr lo n).yld i H x H' → g x σ H' fun σ2 H2 => tb { D with nx := N, ct := N, bk := D.nx } σ2 H2) := by
  refine ⟨fun i m σ H => m = n - i ∧ i ≤ n ∧ Pv i σ H, ⟨n, by simp, Nat.zero_le _, h0⟩, ?_⟩
  rintro i m σ H ⟨rfl, hi, p⟩
  by_cases hlt : i < n
  · refine .inr ⟨hlt, Pv (i + 1), fun σ' H' p' => ⟨n - (i + 1), by omega, rfl, hlt, p'⟩, fun x H' y => ?_⟩
    obtain ⟨e, y⟩ := y
    subst e y
    exact hs i σ _ hlt p
  · have e : i = n := by omega
    subst e
    exact .inl ⟨Nat.le_refl _, hd σ H p⟩
end L2
namespace L2
open PySem PySem.Spec PyProof.Rows
abbrev R2 := V → V → Hp → VK → Prop
def OpR (X : Cx) (f : Value → Value → Sem Value) (r : R2) : Prop :=
  ∀ (pins : List (Addr × Obj)) (s : Shared) (σ : St) (H : Hp) (x y : V) (v u : Value) (Q : VK), Inv X pins σ H s → RelV x v → RelV y u → r x y H Q →
    wpAny (model X.prog X.w) X.A (f v u) (EP X pins σ Q) X.xe s
def UnR (X : Cx) (f : Value → Sem Value) (r : V → Hp → VK → Prop) : Prop :=
  ∀ (pins : List (Addr × Obj)) (s : Shared) (σ : St) (H : Hp) (x : V) (v : Value) (Q : VK), Inv X pins σ H s → RelV x v → r x H Q →
    wpAny (model X.prog X.w) X.A (f v) (EP X pins σ Q) X.xe s
def CallR (X : Cx) (f : Value) (r : List V → Hp → VK → Prop) : Prop :=
  ∀ (pins : List (Addr × Obj)) (s : Shared) (σ : St) (H : Hp) (xs : List V) (us : List Value) (Q : VK), Inv X pins σ H s → Vals xs us → r xs H Q →
    wpAny (model X.prog X.w) X.A (call f us) (EP X pins σ Q) X.xe s
def TruR (X : Cx) (r : V → Hp → (Bool → Hp → Prop) → Prop) : Prop :=
  ∀ (pins : List (Addr × Obj)) (s : Shared) (σ : St) (H : Hp) (x : V) (v : Value) (Q : Bool → Hp → Prop), Inv X pins σ H s → RelV x v → r x H Q →
    wpAny (model X.prog X.w) X.A (truthy v) (TP X pins σ Q) X.xe s
def tOp (r : R2) (ta tb : TE) : TE := fun σ H Q => ta σ H fun x H1 => tb σ H1 fun y H2 => r x y H2 Q
def tUn (r : V → Hp → VK → Prop) (ta : TE) : TE := fun σ H Q => ta σ H fun x H1 => r x H1 Q
def rI (C : Int → Int → Prop) (g : Int → Int → V) : R2 := fun x y H Q => ∃ i j, x = .int i ∧ y = .int j ∧ C i j ∧ Q (g i j) H
def rI0 (g : Int → Int → V) : R2 := fun x y H Q => ∃ i j, x = .int i ∧ y = .int j ∧ Q (g i j) H
def rU (g : Int → V) : V → Hp → VK → Prop := fun x H Q => ∃ i, x = .int i ∧ Q (g i) H
section
variable {X : Cx} {a b c : Expr} {ta tb tc : TE} {pos : Pos}
theorem binT (ha : PE X a ta) (hb : PE X b tb) {pins : List (Addr × Obj)} {s : Shared} {σ : St} {H : Hp} {R : V → V → Hp → Prop} (I : Inv X pins σ H s)
    (h : ta σ H fun x H1 => tb σ H1 fun y H2 => R x y H2) {Q : Value → Shared → Prop} {f : Value → Value → Sem Value}
    (hf : ∀ v u s2 x y H2, Inv X pins σ H2 s2 → RelV x v → RelV y u → R x y H2 → wpAny (model X.prog X.w) X.A (f v u) Q X.xe s2) :
    wpAny (model X.prog X.w) X.A (eval a X.env) (fun v s₁ => wpAny (model X.prog X.w) X.A (eval b X.env) (fun u s₂ => wpAny (model X.prog X.w) X.A (f v u) Q X.xe s₂) X.xe s₁) X.xe s := by
  refine thn (ha pins s σ H _ I h) fun v s1 ⟨x, H1, I1, r1, q1⟩ => ?_
  refine thn (hb pins s1 σ H1 _ I1 q1) fun u s2 ⟨y, H2, I2, r2, q2⟩ => ?_
  exact hf v u s2 x y H2 I2 r1 r2 q2
theorem pe_op {op : Operator} {r : R2} (ho : OpR X (binaryOp op) r) (ha : PE X a ta) (hb : PE X b tb) : PE X (.BinOp a op b pos) (tOp r ta tb) := by
  intro pins s σ H Q I h
  exact wpAny_BinOp (binT ha hb I h fun v u s2 x y H2 I2 rx ry q => ho pins s2 σ H2 x y v u Q I2 rx ry q)
theorem opI {f : Value → Value → Sem Value} {C : Int → Int → Prop} {g : Int → Int → Int}
    (rule : ∀ (i j : Int) (t u : Tok) (s : Shared) (Q : Value → Shared → Prop) (E : Value → Shared → Prop), C i j → Q (.int (g i j) s.toks) { s with toks := s.toks + 1 } → wpAny (model X.prog X.w) X.A (f (.int i t) (.int j u)) Q E s) :
    OpR X f (rI C fun i j => .int (g i j)) := by
  intro pins s σ H x y v u Q I rx ry h
  obtain ⟨i, j, rfl, rfl, hc, q⟩ := h
  obtain ⟨t, rfl⟩ := rx
  obtain ⟨t', rfl⟩ := ry
  exact rule i j t t' s _ _ hc ⟨.int (g i j), H, I.tok _, ⟨_, rfl⟩, q⟩
theorem opI0 {f : Value → Value → Sem Value} {g : Int → Int → Int}
    (rule : ∀ (i j : Int) (t u : Tok) (s : Shared) (Q : Value → Shared → Prop) (E : Value → Shared → Prop), Q (.int (g i j) s.toks) { s with toks := s.toks + 1 } → wpAny (model X.prog X.w) X.A (f (.int i t) (.int j u)) Q E s) :
    OpR X f (rI0 fun i j => .int (g i j)) := by
  intro pins s σ H x y v u Q I rx ry h
  obtain ⟨i, j, rfl, rfl, q⟩ := h
  obtain ⟨t, rfl⟩ := rx
  obtain ⟨t', rfl⟩ := ry
  exact rule i j t t' s _ _ ⟨.int (g i j), H, I.tok _, ⟨_, rfl⟩, q⟩
theorem opB0 {f : Value → Value → Sem Value} {g : Int → Int → Bool}
    (rule : ∀ (i j : Int) (t u : Tok) (s : Shared) (Q : Value → Shared → Prop) (E : Value → Shared → Prop), Q (.bool (g i j)) s → wpAny (model X.prog X.w) X.A (f (.int i t) (.int j u)) Q E s) :
    OpR X f (rI0 fun i j => .bl (g i j)) := by
  intro pins s σ H x y v u Q I rx ry h
  obtain ⟨i, j, rfl, rfl, q⟩ := h
  obtain ⟨t, rfl⟩ := rx
  obtain ⟨t', rfl⟩ := ry
  exact rule i j t t' s _ _ ⟨.bl (g i j), H, I, rfl, q⟩
def CDiv (i j : Int) : Prop := 0 < j ∧ j < 1073741824
def CDivN (i j : Int) : Prop := j ≠ 0 ∧ j.natAbs < 1073741824
def CPow (i j : Int) : Prop := 0 ≤ j ∧ j ≤ 1000000 ∧ i.natAbs < 2 ^ 64
def CMul (i j : Int) : Prop := (-(2 ^ 64) < i ∧ i < 2 ^ 64) ∨ (-(2 ^ 64) < j ∧ j < 2 ^ 64)
theorem CMul.ok {i j : Int} (h : CMul i j) : IntMulOk i j := by
  rcases h with ⟨h1, h2⟩ | ⟨h1, h2⟩
  · exact .of_left (intBits_le_64 h1 h2)
  · exact .of_right (intBits_le_64 h1 h2)
theorem two_pow_nn (k : Nat) : (0 : Int) ≤ 2 ^ k := by
  rw [two_pow_cast]
  exact Int.natCast_nonneg _
theorem op_add : OpR X (binaryOp .Add) (rI0 fun i j => .int (i + j)) := opI0 fun _ _ _ _ _ _ _ q => add_int q
theorem op_mod : OpR X (binaryOp .Mod) (rI (fun _ j => 0 < j) fun i j => .int (i % j)) := opI fun i j _ _ _ _ _ hc q => by
  have h1 : (0 : Int) < j := hc
  exact mod_int' (by omega) (by rw [Int.fmod_eq_emod_of_nonneg i (by omega)]; exact q)
theorem op_pow : OpR X (binaryOp .Pow) (rI CPow fun i j => .int (i ^ j.toNat)) := opI fun _ _ _ _ _ _ _ hc q => pow_int_small hc.1 hc.2.1 hc.2.2 q
theorem op_shr : OpR X (binaryOp .RShift) (rI (fun _ j => 0 ≤ j) fun i j => .int (i / 2 ^ j.toNat)) := opI fun i j _ _ _ _ _ hc q =>
  rshift_int hc (by rw [Int.fdiv_eq_ediv_of_nonneg i (two_pow_nn _)]; exact q)
end
def scal : V → V → Bool
  | .non, .non => true | .non, .int _ => true | .int _, .non => true | .non, .bl _ => true | .bl _, .non => true | .non, .str _ => true | .str _, .non => true
  | .int _, .int _ => true | .bl _, .bl _ => true | .str _, .str _ => true | .byt _, .byt _ => true
  | .int _, .str _ => true | .str _, .int _ => true | .bl _, .str _ => true | .str _, .bl _ => true
  | _, _ => false
def rEq : R2 := fun x y H Q => scal x y = true ∧ Q (.bl (decide (x = y))) H
def rNe : R2 := fun x y H Q => scal x y = true ∧ Q (.bl (!decide (x = y))) H
theorem dec_int {i j : Int} : decide (V.int i = V.int j) = (i == j) := by
  rw [Bool.eq_iff_iff]
  simp
theorem dec_bl {i j : Bool} : decide (V.bl i = V.bl j) = (i == j) := by
  rw [Bool.eq_iff_iff]
  simp
theorem dec_str {i j : Str} : decide (V.str i = V.str j) = (i == j) := by
  rw [Bool.eq_iff_iff]
  simp
theorem dec_byt {i j : Array UInt8} : decide (V.byt i = V.byt j) = (i.toList == j.toList) := by
  rw [Bool.eq_iff_iff]
  cases i
  cases j
  simp
section
variable {X : Cx} {a b c : Expr} {ta tb tc : TE} {pos : Pos}
theorem fin_bl {pins : List (Addr × Obj)} {σ : St} {H : Hp} {s : Shared} {Q : VK} {k k' : Bool} (I : Inv X pins σ H s) (q : Q (.bl k) H) (e : k = k') : EP X pins σ Q (.bool k') s := by
  subst e
  exact ⟨.bl k, H, I, rfl, q⟩
theorem op_eq : OpR X (compareOp .Eq) rEq := by
  intro pins s σ H x y v u Q I rx ry h
  obtain ⟨hs, q⟩ := h
  cases x with
  | non =>
    cases rx
    cases y with
    | non => cases ry; exact PySem.EqNone.eq_none_none (fin_bl I q (by simp))
    | bl j => cases ry; exact PySem.EqNone.eq_none_bool (fin_bl I q (by simp))
    | int j => obtain ⟨t', rfl⟩ := ry; exact PySem.EqNone.eq_none_int (fin_bl I q (by simp))
    | str j => obtain ⟨t', rfl⟩ := ry; exact PySem.EqNone.eq_none_str (fin_bl I q (by simp))
    | _ => exact absurd (show false = true from hs) Bool.false_ne_true
  | bl i =>
    cases rx
    cases y with
    | non => cases ry; exact PySem.EqNone.eq_bool_none (fin_bl I q (by simp))
    | bl j => cases ry; exact eq_bool (fin_bl I q dec_bl)
    | str j => obtain ⟨t', rfl⟩ := ry; exact PySem.EqMixed.eq_bool_str (fin_bl I q (by simp))
    | _ => exact absurd (show false = true from hs) Bool.false_ne_true
  | int i =>
    obtain ⟨t, rfl⟩ := rx
    cases y with
    | non => cases ry; exact PySem.EqNone.eq_int_none (fin_bl I q (by simp))
    | int j => obtain ⟨t', rfl⟩ := ry; exact eq_int (fin_bl I q dec_int)
    | str j => obtain ⟨t', rfl⟩ := ry; exact PySem.EqMixed.eq_int_str (fin_bl I q (by simp))
    | _ => exact absurd (show false = true from hs) Bool.false_ne_true
  | str i =>
    obtain ⟨t, rfl⟩ := rx
    cases y with
    | non => cases ry; exact PySem.EqNone.eq_str_none (fin_bl I q (by simp))
    | bl j => cases ry; exact PySem.EqMixed.eq_str_bool (fin_bl I q (by simp))
    | int j => obtain ⟨t', rfl⟩ := ry; exact PySem.EqMixed.eq_str_int (fin_bl I q (by simp))
    | str j => obtain ⟨t', rfl⟩ := ry; exact eq_str (fin_bl I q dec_str)
    | _ => exact absurd (show false = true from hs) Bool.false_ne_true
  | byt i =>
    obtain ⟨t, rfl⟩ := rx
    cases y with
    | byt j => obtain ⟨t', rfl⟩ := ry; exact PySem.W.eq_bytes (fin_bl I q dec_byt)
    | _ => exact absurd (show false = true from hs) Bool.false_ne_true
  | _ => cases y <;> exact absurd (show false = true from hs) Bool.false_ne_true
theorem op_lt : OpR X (compareOp .Lt) (rI0 fun i j => .bl (decide (i < j))) := opB0 fun _ _ _ _ _ _ _ q => lt_int q
theorem op_gt : OpR X (compareOp .Gt) (rI0 fun i j => .bl (decide (j < i))) := opB0 fun _ _ _ _ _ _ _ q => gt_int q
def isObj : HO → Bool
  | .lst _ => true
  | .ins _ _ _ => true
  | _ => false
theorem OpR.or {f : Value → Value → Sem Value} {r r' : R2} (h : OpR X f r) (h' : OpR X f r') : OpR X f (fun x y H Q => r x y H Q ∨ r' x y H Q) := by
  intro pins s σ H x y v u Q I rx ry q
  rcases q with q | q
  · exact h pins s σ H x y v u Q I rx ry q
  · exact h' pins s σ H x y v u Q I rx ry q
theorem nomark (b : Expr) {op : CmpOp} (h : op ≠ .In := by decide) (h2 : op ≠ .NotIn := by decide) : behindInMarks op b = false := by
  have e1 : (op == CmpOp.In) = false := by cases op <;> first | rfl | exact absurd rfl h
  have e2 : (op == CmpOp.NotIn) = false := by cases op <;> first | rfl | exact absurd rfl h2
  cases b <;> simp [behindInMarks, e1, e2]
theorem pe_cmpR {op : CmpOp} {r : R2} (ho : OpR X (compareOp op) r) (ha : PE X a ta) (hb : PE X b tb) (hm : behindInMarks op b = false) : PE X (.Compare a [op] [b] pos) (tOp r ta tb) := by
  intro pins s σ H Q I h
  exact wpAny_Compare1 (binT ha hb I h fun v u s2 x y H2 I2 rx ry q => ho pins s2 σ H2 x y v u Q I2 rx ry q) hm
def tTest (t : TE) : TT := fun σ H Q => t σ H fun x H' => ∃ k, x = .bl k ∧ Q k H'
theorem pt_cmpR {op : CmpOp} {r : R2} (ho : OpR X (compareOp op) r) (ha : PE X a ta) (hb : PE X b tb) (hm : behindInMarks op b = false) : PT X (.Compare a [op] [b] pos) (tTest (tOp r ta tb)) := by
  intro pins s σ H Q I h
  refine wpAny_isTrue_Compare1 (thn (ha pins s σ H _ I h) fun v s1 ⟨x, H1, I1, r1, q1⟩ => thn (hb pins s1 σ H1 _ I1 q1) fun u s2 ⟨y, H2, I2, r2, q2⟩ =>
    thn (ho pins s2 σ H2 x y v u _ I2 r1 r2 q2) fun c s3 ⟨z, H3, I3, r3, k, e, q3⟩ => ?_) hm
  subst e
  cases r3
  exact wpAny_truthy_bool ⟨H3, I3, q3⟩
def tChain (r r' : R2) (ta tb tc : TE) : TE := fun σ H Q => ta σ H fun x H1 => tb σ H1 fun y H2 => r x y H2 fun z H3 => ∃ k, z = .bl k ∧
  (if k = true then tc σ H3 fun w' H4 => r' y w' H4 Q else Q (.bl false) H3)
def TruV (K : PySem.W.Frag) (x : V) (H : Hp) (k : Bool) : Prop :=
  match x with
  | .non => k = false
  | .bl b => k = b
  | .int i => k = (i != 0)
  | .str y => y.length ≤ sizeLine ∧ k = ((y.length : Int) != 0)
  | .byt y => y.size ≤ sizeLine ∧ k = ((y.size : Int) != 0)
  | .ref p => (∃ xs, SqL K H p xs ∧ k = !xs.isEmpty) ∨ (∃ xs, SqT K H p xs ∧ k = !xs.isEmpty) ∨ ∃ kvs, H p = some (.dK kvs) ∧ k = !kvs.isEmpty
  | _ => False
theorem line63 : (sizeLine : Nat) < 2 ^ 63 := by rw [sizeLine_eq]; decide
def PlainIxT (b : Expr) : Prop := ∀ o i, subscripted b false o i = operate [o, i] (getItem o i)
theorem vals1 {x : V} {us : List Value} (r : Vals [x] us) : ∃ u, us = [u] ∧ RelV x u := by
  cases r with
  | cons r1 r2 => cases r2; exact ⟨_, rfl, r1⟩
theorem vals2 {x y : V} {us : List Value} (r : Vals [x, y] us) : ∃ u w', us = [u, w'] ∧ RelV x u ∧ RelV y w' := by
  cases r with
  | cons r1 r2 =>
    cases r2 with
    | cons r3 r4 => cases r4; exact ⟨_, _, rfl, r1, r3⟩
def LenV (K : PySem.W.Frag) (x : V) (H : Hp) (n : Nat) : Prop :=
  match x with
  | .str y => y.length ≤ sizeLine ∧ n = y.length
  | .byt y => y.size ≤ sizeLine ∧ n = y.size
  | .ref p => (∃ xs, SqL K H p xs ∧ n = xs.length) ∨ ∃ xs, SqT K H p xs ∧ n = xs.length
  | _ => False
end
end L2
namespace L2
open PySem PySem.Spec PyProof.Rows
structure ObjM (h : Heap) (x dx C : Addr) (mA : Str → Option Value) : Prop where
  obj : h.get? x = some (PySem.W.instObj C dx)
  ns : h.Ns1 dx mA
  ne : dx ≠ x
theorem lookIn_ns {h : Heap} {dx : Addr} {mA : Str → Option Value} (n : h.Ns1 dx mA) : ∃ od, h.get? dx = some od ∧ ∀ name, PySem.W.lookIn name od = some (mA name) := by
  obtain ⟨o, es, ep, ho, hd, hk, _, hm⟩ := n
  refine ⟨o, ho, fun name => ?_⟩
  have e := hm name
  unfold nsFind findBy at e
  rw [← Array.find?_toList] at e
  unfold PySem.W.lookIn
  rw [hd]
  dsimp only
  split
  · rename_i y q
    rw [q] at e
    exact congrArg some e
  · rename_i q
    rw [q] at e
    have a : es.toList.any (·.refKey) = false := by
      rw [List.any_eq_false]
      intro y hy
      obtain ⟨z, t, hkey⟩ := hk y (Array.mem_toList_iff.mp hy)
      simp [DictEntry.refKey, hkey]
    have a' : ¬ es.toList.any (·.refKey) = true := by rw [a]; exact Bool.false_ne_true
    rw [if_neg a']
    exact congrArg some e
theorem ObjM.look {h : Heap} {x dx C : Addr} {mA : Str → Option Value} (I : ObjM h x dx C mA) : ∃ od, PySem.W.InstAt h x (PySem.W.instObj C dx) C (some od) ∧ ∀ name, PySem.W.lookIn name od = some (mA name) :=
  let ⟨od, ho, hl⟩ := lookIn_ns I.ns
  ⟨od, ⟨I.obj, rfl, rfl, ho⟩, hl⟩
section
variable {prog : Program} {w : World} {A : Around} {E : Value → Shared → Prop} {s : Shared} {K : PySem.W.Frag} {x dx C f : Addr} {mA : Str → Option Value} {name : Str} {v : Value}
end
def putF (f : Str) (v : V) : List (Str × V) → List (Str × V)
  | [] => [(f, v)]
  | (g, x) :: r => if g = f then (g, v) :: r else (g, x) :: putF f v r
theorem lookup_putF (f g : Str) (v : V) : ∀ fs : List (Str × V), (putF f v fs).lookup g = if g = f then some v else fs.lookup g
  | [] => by
    show List.lookup g [(f, v)] = _
    by_cases h : g = f
    · have hb : (g == f) = true := beq_iff_eq.mpr h
      simp only [List.lookup, hb, if_pos h]
    · have hb : (g == f) = false := beq_eq_false_iff_ne.mpr h
      simp only [List.lookup, hb, if_neg h]
  | (k, x) :: r => by
    have ih := lookup_putF f g v r
    rw [show putF f v ((k, x) :: r) = (if k = f then (k, v) :: r else (k, x) :: putF f v r) from rfl]
    by_cases hk : k = f
    · rw [if_pos hk]
      by_cases h : g = k
      · have hb : (g == k) = true := beq_iff_eq.mpr h
        simp only [List.lookup, hb, if_pos (h.trans hk)]
      · have hb : (g == k) = false := beq_eq_false_iff_ne.mpr h
        simp only [List.lookup, hb, if_neg (fun e : g = f => h (e.trans hk.symm))]
    · rw [if_neg hk]
      by_cases h : g = k
      · have hb : (g == k) = true := beq_iff_eq.mpr h
        simp only [List.lookup, hb, if_neg (fun e : g = f => hk (h.symm.trans e))]
      · have hb : (g == k) = false := beq_eq_false_iff_ne.mpr h
        simp only [List.lookup, hb]
        exact ih
theorem keys_putF (f : Str) (v : V) : ∀ fs : List (Str × V), f ∈ (putF f v fs).map (·.1) ∧ ∀ g, g ∈ fs.map (·.1) → g ∈ (putF f v fs).map (·.1)
  | [] => ⟨by simp [putF], fun g h => by simp at h⟩
  | (k, x) :: r => by
    obtain ⟨i1, i2⟩ := keys_putF f v r
    rw [show putF f v ((k, x) :: r) = (if k = f then (k, v) :: r else (k, x) :: putF f v r) from rfl]
    by_cases hk : k = f
    · rw [if_pos hk]
      subst hk
      exact ⟨by simp, fun g h => by simpa using h⟩
    · rw [if_neg hk]
      refine ⟨?_, fun g h => ?_⟩
      · rw [List.map_cons]
        exact List.mem_cons_of_mem _ i1
      · rw [List.map_cons] at h ⊢
        rcases List.mem_cons.mp h with e | e
        · exact List.mem_cons.mpr (.inl e)
        · exact List.mem_cons_of_mem _ (i2 g e)
theorem RelO.some_of {v : V} {o : Option Value} (r : RelO (some v) o) : ∃ u, o = some u ∧ RelV v u := by
  cases o with
  | none => exact (show False from r).elim
  | some u => exact ⟨u, rfl, r⟩
theorem handed_of {v : V} {u : Value} (r : RelV v u) : PySem.W.handedIn u = true := by
  cases v with
  | non => cases (show u = Value.none from r); rfl
  | bl b => cases (show u = Value.bool b from r); rfl
  | int i => obtain ⟨t, e⟩ := (show ∃ t, u = Value.int i t from r); cases e; rfl
  | str x => obtain ⟨t, e⟩ := (show ∃ t, u = Value.str x t from r); cases e; rfl
  | byt b => obtain ⟨t, e⟩ := (show ∃ t, u = Value.bytes b t from r); cases e; rfl
  | flt b => obtain ⟨t, e⟩ := (show ∃ t, u = Value.float b t from r); cases e; rfl
  | ref a => cases (show u = Value.ref a from r); rfl
  | ty n => cases (show u = Value.type n from r); rfl
section
variable {P : Program} {w : World} {H H' : Hp} {h h' : Heap} {a C dx : Addr} {fs fs' : List (Str × V)}
theorem ins_get (hok : HOk P w H h) (e : H a = some (.ins C dx fs)) : ∃ mA, ObjM h a dx C mA ∧ (∀ f, RelO (fs.lookup f) (mA f)) ∧ PySem.Within mA (fs.map (·.1)) ∧ fs.length ≤ 1000 ∧ H dx = some (.own a) := by
  obtain ⟨d, z, ne, ob, mA, n, r, q⟩ := (show ObjOk P w H h a (.ins C dx fs) from hok a _ e)
  exact ⟨mA, ⟨ob, n, ne⟩, r, q, z, d⟩
end
structure Cls (K : PySem.W.Frag) (C : Addr) : Prop where
  pg : PySem.W.plainGet K C Str.empty = true
  hd : PySem.W.hasDictIn K C = true
  po : PySem.W.plainOver K C = true
  sa : PySem.W.findIn K (.ref C) "__setattr__" = some (some (.builtin "object.__setattr__"))
theorem Cls.get {K : PySem.W.Frag} {C : Addr} (c : Cls K C) (f : Str) : PySem.W.plainGet K C f = true := c.pg
def NoAttr (K : PySem.W.Frag) (C : Addr) (f : Str) : Prop := PySem.W.findIn K (.ref C) f = some none
structure Con (K : PySem.W.Frag) (C : Addr) (f : Str) (v : V) (u : Value) : Prop where
  at_ : PySem.W.findIn K (.ref C) f = some (some u)
  rel : RelV v u
  get : PySem.W.specialIn K u "__get__" = some none
  cp : PySem.W.copiedNames.contains f = false
structure Meth (K : PySem.W.Frag) (C : Addr) (m : Str) (f : Addr) : Prop where
  at_ : PySem.W.findIn K (.ref C) m = some (some (.ref f))
  fn : PySem.W.isFn K (.ref f) = true
  kp : PySem.W.keepIn K (.ref f) = true
section
variable {X : Cx} {pins : List (Addr × Obj)} {σ : St} {H : Hp} {s : Shared} {a C dx : Addr} {fs : List (Str × V)} {f : Str} {v : V} {A : Around} {E : Value → Shared → Prop}
theorem Inv.made (I : Inv X pins σ H s) : Inv X pins σ (upd (upd H s.heap.objs.size (.own (s.heap.objs.size + 1))) (s.heap.objs.size + 1) (.ins C s.heap.objs.size []))
    { s with heap := (s.heap.push PySem.W.emptyDict).push (PySem.W.instObj C s.heap.objs.size) } := by
  have e1 : (s.heap.push PySem.W.emptyDict).get? s.heap.objs.size = some PySem.W.emptyDict := Heap.get?_push_size s.heap rfl
  have e2 : ((s.heap.push PySem.W.emptyDict).push (PySem.W.instObj C s.heap.objs.size)).get? (s.heap.objs.size + 1) = some (PySem.W.instObj C s.heap.objs.size) := by
    have := Heap.get?_push_size (s.heap.push PySem.W.emptyDict) (o := PySem.W.instObj C s.heap.objs.size) rfl
    rwa [Heap.size_push] at this
  have e3 : (s.heap.push PySem.W.emptyDict).Ns s.heap.objs.size (fun _ => none) := ⟨PySem.W.emptyDict, #[], _, e1, rfl, (fun e he => absurd he (by simp)), fun _ => rfl⟩
  have I1 := I.laid (a := s.heap.objs.size) (o := .own (s.heap.objs.size + 1)) (h' := s.heap.push PySem.W.emptyDict) (t' := s.toks) (fun b u q => Heap.get?_push_of_some _ q) (Nat.le_refl _) ⟨_, e1⟩
  refine I1.laid (a := s.heap.objs.size + 1) (o := .ins C s.heap.objs.size []) (t' := s.toks) (fun b u q => Heap.get?_push_of_some _ q) (Nat.le_of_eq (Heap.size_push _ _)) ?_
  have ne : s.heap.objs.size ≠ s.heap.objs.size + 1 := Nat.ne_of_lt (Nat.lt_succ_self _)
  refine ⟨by rw [upd_ne ne, upd_same], Nat.zero_le _, ne, e2, fun _ => none, (Heap.Ns1.of_empty e3).at fun o q => Heap.get?_push_of_some _ q, fun _ => True.intro, fun y hy => absurd rfl hy⟩
theorem attr_of {prog : Program} {w : World} {env : Env} {e : Expr} {f : Str} {pos : Pos} {s : Shared} {Q : Value → Shared → Prop} (hb : attributeBase e f env (eval e env) = eval e env)
    (h : wpAny (model prog w) A (eval e env) (fun o s₁ => wpAny (model prog w) A (getAttr o f true) Q E s₁) E s) : wpAny (model prog w) A (eval (.Attribute e f pos) env) Q E s :=
  Attribute_any_ h (by rw [arm_eval_Attribute, hb])
end
def tFld (K : PySem.W.Frag) (ta : TE) (f : Str) : TE := fun σ H Q => ta σ H fun x H1 => ∃ a C dx fs v, x = .ref a ∧ H1 a = some (.ins C dx fs) ∧ Cls K C ∧ NoAttr K C f ∧ fs.lookup f = some v ∧ Q v H1
def tCon (K : PySem.W.Frag) (ta : TE) (f : Str) : TE := fun σ H Q => ta σ H fun x H1 => ∃ a C dx fs v u, x = .ref a ∧ H1 a = some (.ins C dx fs) ∧ Cls K C ∧ Con K C f v u ∧ fs.lookup f = none ∧ Q v H1
def sFld (K : PySem.W.Frag) (ta tv : TE) (f : Str) : TS := fun D σ H => tv σ H fun y H1 => ta σ H1 fun x H2 => ∃ a C dx fs, x = .ref a ∧ H2 a = some (.ins C dx fs) ∧ Cls K C ∧ NoAttr K C f ∧ fs.length < 1000 ∧
  D.nx σ (upd H2 a (.ins C dx (putF f y fs)))
def InOp (X : Cx) (op : Operator) (rd : V → V → Hp → VK → Prop) : Prop :=
  ∀ (pins : List (Addr × Obj)) (s : Shared) (σ : St) (H : Hp) (x y : V) (u v : Value) (Q : VK), Inv X pins σ H s → RelV x u → RelV y v → rd x y H Q → wpAny (model X.prog X.w) X.A (inplaceOp op u v) (EP X pins σ Q) X.xe s
def sFldAug (K : PySem.W.Frag) (ta tv : TE) (rd : V → V → Hp → VK → Prop) (f : Str) : TS := fun D σ H => ta σ H fun x H1 => ∃ a C dx fs v, x = .ref a ∧ H1 a = some (.ins C dx fs) ∧ Cls K C ∧ NoAttr K C f ∧ fs.lookup f = some v ∧
  tv σ H1 fun y H2 => rd v y H2 fun z H3 => ∃ dx' fs', H3 a = some (.ins C dx' fs') ∧ fs'.length < 1000 ∧ D.nx σ (upd H3 a (.ins C dx' (putF f z fs')))
section
variable {X : Cx} {o e value : Expr} {f : Str} {pos pos' tpos : Pos} {ta tv : TE}
def rAdd : V → V → Hp → VK → Prop := fun x y H Q => ∃ i j, x = .int i ∧ y = .int j ∧ Q (.int (i + j)) H
def rSub : V → V → Hp → VK → Prop := fun x y H Q => ∃ i j, x = .int i ∧ y = .int j ∧ Q (.int (i - j)) H
end
section
variable {X : Cx} {pins : List (Addr × Obj)} {σ : St} {H : Hp} {s : Shared} {A : Around} {E : Value → Shared → Prop} {Q : Value → Shared → Prop} {c : Value} {b : Bool}
inductive TyOf (K : PySem.W.Frag) (H : Hp) : V → Value → Prop where
  | non : TyOf K H .non (.type "NoneType")
  | bl (x : Bool) : TyOf K H (.bl x) (.type "bool")
  | int (i : Int) : TyOf K H (.int i) (.type "int")
  | str (x : Str) : TyOf K H (.str x) (.type "str")
  | flt (x : UInt64) : TyOf K H (.flt x) (.type "float")
  | lst {a : Addr} {xs : List V} (e : H a = some (.lst xs)) : TyOf K H (.ref a) (.type "list")
  | frz {a : Addr} {o : Obj} {xs : List V} (e : H a = some (.frz o (.lst xs))) : TyOf K H (.ref a) (.type "list")
  | tup {a : Addr} {xs : List V} (e : H a = some (.tup xs)) : TyOf K H (.ref a) (.type "tuple")
  | dK {a : Addr} {kvs : List (Key × V)} (e : H a = some (.dK kvs)) : TyOf K H (.ref a) (.type "dict")
  | dT {a : Addr} {kvs : List (List Key × V)} (e : H a = some (.dT kvs)) : TyOf K H (.ref a) (.type "dict")
  | ins {a C dx : Addr} {fs : List (Str × V)} (e : H a = some (.ins C dx fs)) (cl : Cls K C) (ha : PySem.W.findIn K (.ref C) "__class__" = some (some (.builtin "object.__class__")))
      (hn : PySem.W.specialIn K (.builtin "object.__class__") "__get__" = some (some (.builtin "getset_descriptor.__get__"))) (htk : PySem.W.takesIn K (.builtin "object.__class__") = some true)
      (hm : PySem.W.mroIn K C (.type "object") = some true) : TyOf K H (.ref a) (.ref C)
theorem isinst_ok {x : V} {u t : Value} (I : Inv X pins σ H s) (rx : RelV x u) (ty : TyOf X.K H x t) (e : PySem.W.kitOne X.K t c = some b) (h : ∀ tk, Q (.bool b) { s with toks := tk }) :
    wpAny (model X.prog X.w) A (call (.builtin "isinstance") [u, c]) Q E s := by
  cases ty with
  | non => cases (show u = Value.none from rx); exact PySem.W.kia_one PySem.W.kitx_none I.kIn True.intro e (fun z => nomatch z) h
  | bl y => cases (show u = Value.bool y from rx); exact PySem.W.kia_one PySem.W.kitx_bool I.kIn True.intro e (fun z => nomatch z) h
  | int i => obtain ⟨t, q⟩ := (show ∃ t, u = Value.int i t from rx); cases q; exact PySem.W.kia_one PySem.W.kitx_int I.kIn True.intro e (fun z => nomatch z) h
  | str y => obtain ⟨t, q⟩ := (show ∃ t, u = Value.str y t from rx); cases q; exact PySem.W.kia_one PySem.W.kitx_str I.kIn True.intro e (fun z => nomatch z) h
  | flt y => obtain ⟨t, q⟩ := (show ∃ t, u = Value.float y t from rx); cases q; exact PySem.W.kia_one PySem.W.kitx_float I.kIn True.intro e (fun z => nomatch z) h
  | @lst a xs ea =>
    cases (show u = Value.ref a from rx)
    obtain ⟨_, _, n, _, h1⟩ := (show ObjOk X.prog X.w H s.heap a (.lst xs) from I.hok a _ ea)
    exact PySem.W.kia_one PySem.W.kitx_list I.kIn ⟨_, h1, rfl⟩ e (fun z => nomatch z) h
  | @frz a ob xs ea =>
    cases (show u = Value.ref a from rx)
    obtain ⟨_, _, _, n, _, h1⟩ := (show ObjOk X.prog X.w H s.heap a (.frz ob (.lst xs)) from I.hok a _ ea)
    exact PySem.W.kia_one PySem.W.kitx_list I.kIn ⟨_, h1, rfl⟩ e (fun z => nomatch z) h
  | @tup a xs ea =>
    cases (show u = Value.ref a from rx)
    obtain ⟨_, _, _, p⟩ := (show ObjOk X.prog X.w H s.heap a (.tup xs) from I.hok a _ ea)
    obtain ⟨o, h1, h2, _⟩ := p
    exact PySem.W.kia_one PySem.W.kitx_tuple I.kIn ⟨o, h1, h2⟩ e (fun z => nomatch z) h
  | @dK a kvs ea =>
    cases (show u = Value.ref a from rx)
    obtain ⟨_, _, vs, _, p⟩ := (show ObjOk X.prog X.w H s.heap a (.dK kvs) from I.hok a _ ea)
    obtain ⟨o, es, ep, h1, h2, _⟩ := p
    exact PySem.W.kia_one PySem.W.kitx_dict I.kIn ⟨o, h1, h2.1⟩ e (fun z => nomatch z) h
  | @dT a kvs ea =>
    cases (show u = Value.ref a from rx)
    obtain ⟨_, _, xs, _, o, es, ep, h1, h2, _⟩ := (show ObjOk X.prog X.w H s.heap a (.dT kvs) from I.hok a _ ea)
    exact PySem.W.kia_one PySem.W.kitx_dict I.kIn ⟨o, h1, h2.1⟩ e (fun z => nomatch z) h
  | @ins a C dx fs ea cl ha hn htk hm =>
    cases (show u = Value.ref a from rx)
    obtain ⟨mA, O, _⟩ := ins_get I.hok ea
    obtain ⟨od, J, _⟩ := O.look
    exact PySem.W.kia_one (PySem.W.kitx_own (cl.get _) cl.hd ha hn htk hm) I.kIn J e (fun z => nomatch z) h
end
end L2
namespace L2
open PySem PySem.Spec PyProof.Rows
structure Room (k : Nat) (A : Around) : Prop where
  hd : A.handled = none
  dp : A.depth + 3 * k + 5 < recursionLimit
  un : A.units + 16 * k + 200 < cLine
theorem Room.mono {j k : Nat} {A : Around} (r : Room k A) (h : j ≤ k) : Room j A := ⟨r.hd, by have := r.dp; omega, by have := r.un; omega⟩
theorem Room.deeper {k : Nat} {A : Around} (r : Room (k + 1) A) (env : Env) : Room k (A.deeper env) :=
  ⟨r.hd, by have := r.dp; show A.depth + 1 + 3 * k + 5 < _; omega, by have := r.un; show A.units + 3 + 16 * k + 200 < _; omega⟩
theorem Room.in1 {k : Nat} {A : Around} (r : Room (k + 1) A) : Room k A.in1 :=
  ⟨r.hd, by have := r.dp; show A.depth + 3 * k + 5 < _; omega, by have := r.un; show A.units + 1 + 16 * k + 200 < _; omega⟩
theorem make_depth {A : Around} {C : Addr} {us : List Value} {kw : List (Str × Value)} : (A.under (.builtin "type.__call__" ⟨.ref C :: us, kw⟩)).depth = A.depth + 1 := by
  first | rfl | simp [Around.under, Code.weight, Code.isCreation, Code.isGuard, Code.isCaller, Code.frames, Code.isFrame, guardIds]
theorem make_units {A : Around} {C : Addr} {us : List Value} {kw : List (Str × Value)} : (A.under (.builtin "type.__call__" ⟨.ref C :: us, kw⟩)).units = A.units + 1 := by
  first | rfl | simp [Around.under, Code.cUnits, Code.frames, Code.isFrame]
theorem Room.make {k : Nat} {A : Around} (r : Room (k + 1) A) (C : Addr) (us : List Value) (kw : List (Str × Value)) : Room k (A.under (.builtin "type.__call__" ⟨.ref C :: us, kw⟩)) :=
  ⟨r.hd, by have := r.dp; rw [make_depth]; omega, by have := r.un; rw [make_units]; omega⟩
theorem Room.depth {k : Nat} {A : Around} (r : Room k A) : A.depth < recursionLimit := by have := r.dp; omega
theorem Room.units {k : Nat} {A : Around} (r : Room k A) : A.units + 64 < cLine := by have := r.un; omega
def tNil : TA := fun _ H Q => Q [] H
def tCons (ta : TE) (tr : TA) : TA := fun σ H Q => ta σ H fun x H1 => tr σ H1 fun xs H2 => Q (x :: xs) H2
section
variable {X : Cx} {e : Expr} {es : List Expr} {te : TE} {t : TA} {pos : Pos}
theorem pa_nil : PA X [] tNil := fun _ _ _ _ H Q I h => Calls.spliced_nil ⟨[], H, I, .nil, h⟩
theorem pa_cons (ha : PE X e te) (hr : PA X es t) (hs : starEach (e :: es) X.env = (false, eval e X.env) :: starEach es X.env := by rfl) : PA X (e :: es) (tCons te t) := by
  intro pos pins s σ H Q I h
  rw [hs]
  show wpAny _ _ (spliced ((false, eval e X.env) :: backTo pos (starEach es X.env))) _ _ s
  refine Calls.spliced_cons (thn (ha pins s σ H _ I h) fun u s1 ⟨x, H1, I1, r1, q1⟩ => ?_)
  exact thn (hr pos pins s1 σ H1 _ I1 q1) fun us s2 ⟨xs, H2, I2, r2, q2⟩ => ⟨x :: xs, H2, I2, .cons r1 r2, q2⟩
def tTup (t : TA) : TE := fun σ H Q => t σ H fun xs H1 => xs.length ≤ sizeLine ∧ ∀ p, H1 p = none → Q (.ref p) (upd H1 p (.tup xs))
def tLst (t : TA) : TE := fun σ H Q => t σ H fun xs H1 => xs.length ≤ sizeLine ∧ ∀ p, H1 p = none → Q (.ref p) (upd H1 p (.lst xs))
theorem pe_tup {x1} (h : PA X es t) : PE X (.Tuple es x1 pos) (tTup t) := by
  intro pins s σ H Q I hq
  refine wpAny_Tuple_spliced (thn (h pos pins s σ H _ I hq) fun us s1 ⟨xs, H1, I1, r, z, q⟩ => ⟨by rw [← r.length]; exact z, ?_⟩)
  have hf : H1 s1.heap.objs.size = none := I1.hok.fresh (Nat.le_refl _)
  refine ⟨.ref s1.heap.objs.size, upd H1 s1.heap.objs.size (.tup xs), I1.laid (t' := s1.toks) (fun b u e => Heap.get?_push_of_some _ e) (Nat.le_refl _) ?_, rfl, q _ hf⟩
  exact ⟨z, us, r, ⟨_, Heap.get?_push_size _ rfl, rfl, _, rfl⟩⟩
theorem pe_lst (h : PA X es t) : PE X (.List es pos) (tLst t) := by
  intro pins s σ H Q I hq
  refine wpAny_List_spliced (thn (h pos pins s σ H _ I hq) fun us s1 ⟨xs, H1, I1, r, z, q⟩ => ⟨by rw [← r.length]; exact z, ?_⟩)
  have hf : H1 s1.heap.objs.size = none := I1.hok.fresh (Nat.le_refl _)
  refine ⟨.ref s1.heap.objs.size, upd H1 s1.heap.objs.size (.lst xs), I1.laid (t' := s1.toks) (fun b u e => Heap.get?_push_of_some _ e) (Nat.le_refl _) ?_, rfl, q _ hf⟩
  exact ⟨z, us, 0, r, Heap.get?_push_size _ rfl⟩
end
abbrev Sp := List V → Hp → VK → XK → Prop
abbrev CXT := List Env → Hp → Shared → XK → Value → Shared → Prop
structure Env0 (P : Program) (w : World) (K : PySem.W.Frag) (mg : Str → Option Value) (base : Heap) (A : Around) (outer : List Env) (s : Shared) (H : Hp) : Prop where
  frames : A.frames = some outer
  mod : Mod K mg base
  bs : ∀ b o, base.get? b = some o → s.heap.get? b = some o ∧ H b = none
  bsz : base.objs.size ≤ s.heap.objs.size
  funs : s.heap.FunFrames base outer
  frf : ∀ b ∈ frs outer, H b = none
  hok : HOk P w H s.heap
  bare : AllBare s.gens
def CE (outer : List Env) (P : Program) (w : World) (H : Hp) (s : Shared) (Q : VK) (u : Value) (s' : Shared) : Prop :=
  ∃ v H', s'.os = s.os ∧ AllBare s'.gens ∧ Un (frs outer) [] H H' s.heap s'.heap ∧ HOk P w H' s'.heap ∧ RelV v u ∧ Q v H'
def CR (CX : CXT) (outer : List Env) (P : Program) (w : World) (H : Hp) (s : Shared) (Q : VK) (E : XK) (r : Result) (s' : Shared) : Prop :=
  match r with
  | .ok (.ret u) => CE outer P w H s Q u s'
  | .ok _ => False
  | .error e => CX outer H s E e s'
structure FnOk (P : Program) (w : World) (K : PySem.W.Frag) (mg : Str → Option Value) (base : Heap) (CX : CXT) (k : Nat) (f : Addr) (fd : FuncData) (ps : List Str) (sp : Sp) : Prop where
  len : ∀ vs H Q E, sp vs H Q E → vs.length = ps.length
  run : ∀ (A : Around) (outer : List Env) (s : Shared) (H : Hp) (args : Args) (us : List Value) (vs : List V) (Q : VK) (E : XK), Room k A → Env0 P w K mg base A outer s H → BindsTo s fd args (ps.zip us) → Vals vs us → sp vs H Q E →
    codeAny (model P w) A (.call (.ref f) args) (CR CX outer P w H s Q E) s
theorem FnOk.mono {P : Program} {w : World} {K : PySem.W.Frag} {mg : Str → Option Value} {base : Heap} {CX : CXT} {j k : Nat} {f : Addr} {fd : FuncData} {ps : List Str} {sp : Sp} (F : FnOk P w K mg base CX j f fd ps sp) (h : j ≤ k) :
    FnOk P w K mg base CX k f fd ps sp := ⟨F.len, fun A outer s H args us vs Q E hr => F.run A outer s H args us vs Q E (hr.mono h)⟩
theorem FnOk.imp {P : Program} {w : World} {K : PySem.W.Frag} {mg : Str → Option Value} {base : Heap} {CX : CXT} {k : Nat} {f : Addr} {fd : FuncData} {ps : List Str} {sp sp' : Sp} (F : FnOk P w K mg base CX k f fd ps sp)
    (h : ∀ vs H Q E, sp' vs H Q E → sp vs H Q E) : FnOk P w K mg base CX k f fd ps sp' :=
  ⟨fun vs H Q E q => F.len vs H Q E (h _ _ _ _ q), fun A outer s H args us vs Q E hr he hb hv hs => F.run A outer s H args us vs Q E hr he hb hv (h _ _ _ _ hs)⟩
theorem Env0.make {P : Program} {w : World} {K : PySem.W.Frag} {mg : Str → Option Value} {base : Heap} {A : Around} {outer : List Env} {s : Shared} {H : Hp} (e : Env0 P w K mg base A outer s H) (C : Addr) (us : List Value) (kw : List (Str × Value)) :
    Env0 P w K mg base (A.under (.builtin "type.__call__" ⟨.ref C :: us, kw⟩)) outer s H := ⟨by first | exact e.frames | (simpa [Around.under, Code.envs, Code.isFrame, pushEnvs] using e.frames), e.mod, e.bs, e.bsz, e.funs, e.frf, e.hok, e.bare⟩
theorem Env0.in1 {P : Program} {w : World} {K : PySem.W.Frag} {mg : Str → Option Value} {base : Heap} {A : Around} {outer : List Env} {s : Shared} {H : Hp} (e : Env0 P w K mg base A outer s H) :
    Env0 P w K mg base A.in1 outer s H := ⟨e.frames, e.mod, e.bs, e.bsz, e.funs, e.frf, e.hok, e.bare⟩
section
variable {X : Cx} {pins : List (Addr × Obj)} {σ : St} {H : Hp} {s s' : Shared}
theorem Inv.env0 (I : Inv X pins σ H s) : Env0 X.prog X.w X.K X.mg X.base X.A X.stack s H :=
  ⟨I.ok.frames, I.ok.mod, I.bs, Nat.le_trans I.ok.bsz I.sz, I.stack, I.stkFree, I.hok, I.bare⟩
theorem Inv.after {Q : VK} {u : Value} (I : Inv X pins σ H s) (h : CE X.stack X.prog X.w H s Q u s') : EP X pins σ Q u s' := by
  obtain ⟨v, H', os, bare, un, hok, r, q⟩ := h
  obtain ⟨hh, g, d, t, os'⟩ := s'
  obtain rfl : os' = s.os := os
  exact ⟨v, H', I.call (h' := hh) (g' := g) (d' := d) (t' := t) (ch := []) un hok bare (fun b z => absurd z (by simp)), r, q⟩
end
def tCall (sp : Sp) (dvs : List V) (E : XK) (t : TA) : TE := fun σ H Q => t σ H fun vs H1 => sp (vs ++ dvs) H1 Q E
def tMeth (C : Addr) (m : Str) (sp : Sp) (dvs : List V) (E : XK) (ta : TE) (t : TA) : TE := fun σ H Q => ta σ H fun x H1 => ∃ a dx fs, x = .ref a ∧ H1 a = some (.ins C dx fs) ∧ fs.lookup m = none ∧
  t σ H1 fun vs H2 => sp (x :: (vs ++ dvs)) H2 Q E
def tMake (C : Addr) (sp : Sp) (dvs : List V) (E : XK) (t : TA) : TE := fun σ H Q => t σ H fun vs H1 => ∀ x dx, H1 x = none → H1 dx = none → dx ≠ x →
  sp (.ref x :: (vs ++ dvs)) (upd (upd H1 dx (.own x)) x (.ins C dx [])) (fun v H2 => v = .non ∧ Q (.ref x) H2) E
def Binds (K : PySem.W.Frag) (fd : FuncData) (ps : List Str) (ds : List Value) : Prop :=
  ∀ (s : Shared) (us : List Value), K.In s.heap → (us ++ ds).length = ps.length → BindsTo s fd ⟨us, []⟩ (ps.zip (us ++ ds))
theorem Binds.all {K : PySem.W.Frag} {fd : FuncData} {ps : List Str} (h : ∀ us : List Value, us.length = ps.length → bindArgs fd ⟨us, []⟩ = pure (ps.zip us)) : Binds K fd ps [] := fun s us _ hl => by
  rw [List.append_nil] at hl ⊢
  exact .of_eq (h us hl)
def Passes (CX : CXT) (X : Cx) (E : XK) : Prop := ∀ (pins : List (Addr × Obj)) (σ : St) (H : Hp) (s : Shared) (e : Value) (s' : Shared), Inv X pins σ H s → CX X.stack H s E e s' → X.xe e s'
section
variable {X : Cx} {CX : CXT} {k : Nat} {f C : Addr} {fd : FuncData} {ps : List Str} {sp : Sp} {dvs : List V} {ds : List Value} {E : XK} {x m : Str} {p pos apos : Pos} {e o : Expr} {es : List Expr} {ta : TE} {t : TA}
theorem run_fn {pins : List (Addr × Obj)} {σ : St} {H : Hp} {s : Shared} {Q : VK} {us : List Value} {vs : List V} (F : FnOk X.prog X.w X.K X.mg X.base CX k f fd ps sp) (hr : Room k X.A) (hb : Binds X.K fd ps ds) (hd : Vals dvs ds) (hx : Passes CX X E)
    (I : Inv X pins σ H s) (r : Vals vs us) (h : sp (vs ++ dvs) H Q E) : wpAny (model X.prog X.w) X.A (call (.ref f) us) (EP X pins σ Q) X.xe s := by
  have r2 : Vals (vs ++ dvs) (us ++ ds) := r.append hd
  have hl : (us ++ ds).length = ps.length := by rw [← r2.length]; exact F.len _ _ _ _ h
  refine wpAny_call (codeAny_mono (F.run X.A X.stack s H ⟨us, []⟩ (us ++ ds) (vs ++ dvs) Q E hr I.env0 (hb s us I.kIn hl) r2 h) fun r s' hq => ?_)
  cases r with
  | error e => exact hx pins σ H s e s' I hq
  | ok fl =>
    cases fl with
    | ret u => exact I.after hq
    | next => exact False.elim hq
    | brk => exact False.elim hq
    | cont => exact False.elim hq
theorem pe_call (F : FnOk X.prog X.w X.K X.mg X.base CX k f fd ps sp) (hr : Room k X.A) (hg : Gl X x) (hm : X.mg x = some (.ref f)) (hk : PySem.W.keepIn X.K (.ref f) = true) (hb : Binds X.K fd ps ds) (hd : Vals dvs ds) (hx : Passes CX X E)
    (ha : PA X (e :: es) t) (hdb : (x == ("__debug__" : Str)) = false := by decide) (he : starEach (e :: es) X.env = (false, eval e X.env) :: starEach es X.env := by rfl) (hpl : (backTo pos (starEach es X.env)).any (·.1) = false := by rfl) :
    PE X (.Call (.Name x p) (e :: es) [] pos) (tCall sp dvs E t) := by
  intro pins s σ H Q I h
  refine wpAny_Call_Name_kw (ld_glob I hg hm ?_ hdb)
  refine PySem.W.callWith_K (h₀ := X.base) I.ok.mod.kin hk (thn (ha pos pins s σ H _ I h) fun us s1 ⟨vs, H1, I1, r, q⟩ => ⟨I1.kIn, ?_⟩) he hpl
  exact run_fn F hr hb hd hx I1 r q
structure Mk (K : PySem.W.Frag) (C f : Addr) : Prop where
  makes : PySem.W.makesIn K C = true
  init : PySem.W.findIn K (.ref C) "__init__" = some (some (.ref f))
  fn : PySem.W.isFn K (.ref f) = true
  kp : PySem.W.keepIn K (.ref C) = true
end
def PK (X : Cx) (kws : List Keyword) (t : TA) : Prop :=
  ∀ (pos : Pos) (pins : List (Addr × Obj)) (s : Shared) (σ : St) (H : Hp) (Q : List V → Hp → Prop), Inv X pins σ H s → t σ H Q → wpAny (model X.prog X.w) X.A (evalAll ((backToKw pos (keywordEach kws X.env)).map (·.2))) (AP X pins σ Q) X.xe s
section
variable {X : Cx} {CX : CXT} {k : Nat} {f C : Addr} {fd : FuncData} {ps ks : List Str} {sp : Sp} {E : XK} {x m : Str} {p pos apos kpos : Pos} {e o : Expr} {es : List Expr} {kws : List Keyword} {te ta : TE} {t tk : TA} {nm : Option Str}
structure KBinds (K : PySem.W.Frag) (fd : FuncData) (ps ks : List Str) (g : List Value → List Value → List Value) (gV : List V → List V → List V) : Prop where
  to : ∀ (s : Shared) (us ws : List Value), K.In s.heap → (g us ws).length = ps.length → BindsTo s fd ⟨us, ks.zip ws⟩ (ps.zip (g us ws))
  rel : ∀ {vs : List V} {us : List Value} {zs : List V} {ws : List Value}, Vals vs us → Vals zs ws → Vals (gV vs zs) (g us ws)
def tCallK (sp : Sp) (gV : List V → List V → List V) (E : XK) (t tk : TA) : TE := fun σ H Q => t σ H fun vs H1 => tk σ H1 fun zs H2 => sp (gV vs zs) H2 Q E
variable {g : List Value → List Value → List Value} {gV : List V → List V → List V}
end
structure FnScope (N P : List Str) (sc : Scope) : Prop where
  kind : sc.kind = .function
  co : sc.isCoroutine = false
  gen : sc.isGenerator = false
  nd : N.Nodup
  pre : N.take P.length = P
  par : ∀ x ∈ P, sc.names.lookup x = some .local ∨ sc.names.lookup x = some .cell
  nofree : ∀ y ∈ sc.names, y.2 ≠ .free
theorem bindL_out {kindOf : Str → Option NameKind} {x : Str} : ∀ {binds : List (Str × Value)} {m : Str → Option Value}, (∀ v, (x, v) ∉ binds) → bindL kindOf binds m x = m x
  | [], _, _ => rfl
  | (n, v) :: r, m, h => by
    unfold bindL
    rw [bindL_out fun w hw => h w (List.mem_cons_of_mem _ hw)]
    split
    · have : x ≠ n := by rintro rfl; exact h v List.mem_cons_self
      simp [this]
    · rfl
theorem bindC_out {kindOf : Str → Option NameKind} {x : Str} : ∀ {binds : List (Str × Value)} {m : Str → Option Value}, (∀ v, (x, v) ∉ binds) → bindC kindOf binds m x = m x
  | [], _, _ => rfl
  | (n, v) :: r, m, h => by
    unfold bindC
    rw [bindC_out fun w hw => h w (List.mem_cons_of_mem _ hw)]
    split
    · rfl
    · have : x ≠ n := by rintro rfl; exact h v List.mem_cons_self
      simp [this]
theorem bindL_get {kindOf : Str → Option NameKind} {x : Str} {v : Value} : ∀ {P : List Str} {vs : List Value} {i : Nat} {m : Str → Option Value}, P.Nodup → P[i]? = some x → vs[i]? = some v → kindOf x = some .local →
    bindL kindOf (P.zip vs) m x = some v
  | [], _, _, _, _, h, _, _ => by simp at h
  | _ :: _, [], _, _, _, _, h, _ => by simp at h
  | p :: P, w :: vs, 0, m, nd, h1, h2, hk => by
    simp at h1 h2; subst h1; subst h2
    show bindL kindOf ((p, w) :: P.zip vs) m p = _
    unfold bindL
    rw [bindL_out fun v hv => (List.nodup_cons.mp nd).1 (List.of_mem_zip hv).1, if_pos hk]
    simp
  | p :: P, w :: vs, i + 1, m, nd, h1, h2, hk => by
    show bindL kindOf ((p, w) :: P.zip vs) m x = _
    unfold bindL
    exact bindL_get (i := i) (List.nodup_cons.mp nd).2 (by simpa using h1) (by simpa using h2) hk
theorem bindC_get {kindOf : Str → Option NameKind} {x : Str} {v : Value} : ∀ {P : List Str} {vs : List Value} {i : Nat} {m : Str → Option Value}, P.Nodup → P[i]? = some x → vs[i]? = some v → kindOf x ≠ some .local →
    bindC kindOf (P.zip vs) m x = some v
  | [], _, _, _, _, h, _, _ => by simp at h
  | _ :: _, [], _, _, _, _, h, _ => by simp at h
  | p :: P, w :: vs, 0, m, nd, h1, h2, hk => by
    simp at h1 h2; subst h1; subst h2
    show bindC kindOf ((p, w) :: P.zip vs) m p = _
    unfold bindC
    rw [bindC_out fun v hv => (List.nodup_cons.mp nd).1 (List.of_mem_zip hv).1, if_neg hk]
    simp
  | p :: P, w :: vs, i + 1, m, nd, h1, h2, hk => by
    show bindC kindOf ((p, w) :: P.zip vs) m x = _
    unfold bindC
    exact bindC_get (i := i) (List.nodup_cons.mp nd).2 (by simpa using h1) (by simpa using h2) hk
def start (N : List Str) (vs : List V) : St := vs.map some ++ List.replicate (N.length - vs.length) none
def cxOf (CX : CXT) (P : Program) (w : World) (K : PySem.W.Frag) (mg : Str → Option Value) (base : Heap) (N : List Str) (qual : Str) (scope : Scope) (f : Addr) (cd : Value) (A : Around) (outer : List Env) (s : Shared) (H : Hp) (E : XK) : Cx where
  prog := P
  w := w
  K := K
  mg := mg
  base := base
  A := A.deeper (envOfC qual scope s.heap.objs.size f cd)
  N := N
  s₀ := s
  H₀ := H
  env := envOfC qual scope s.heap.objs.size f cd
  outer := outer
  stack := envOfC qual scope s.heap.objs.size f cd :: outer
  ex := []
  calm := true
  fn := fun _ => true
  pn := []
  xe := fun e s' => wpAny (model P w) (A.deeper (envOfC qual scope s.heap.objs.size f cd)) (leaving (envOfC qual scope s.heap.objs.size f cd) e) (fun _ s'' => CX outer H s E e s'') (fun e' s'' => CX outer H s E e' s'') s'
theorem cell_has {sc : Scope} {n : Nat} {x : Str} (h : sc.names.lookup x = some .cell) : ∃ c, (cellsFrom n sc.names []).lookup x = some c := by
  have q := PySem.W.cellsFrom_some sc.names n [] (.inl h)
  exact Option.isSome_iff_exists.mp q
theorem inv_start {CX : CXT} {P : Program} {w : World} {K : PySem.W.Frag} {mg : Str → Option Value} {base : Heap} {N ps : List Str} {qual : Str} {scope : Scope} {f : Addr} {cd : Value} {A : Around} {outer : List Env} {s s1 : Shared} {H : Hp} {E : XK} {us : List Value} {vs : List V}
    (S : FnScope N ps scope) (hd : A.handled = none) (e0 : Env0 P w K mg base A outer s H) (hl : vs.length = ps.length) (r : Vals vs us)
    (x : InCallC s s.heap.objs.size (bindL (envOfC qual scope s.heap.objs.size f cd).kindOf (ps.zip us) fun _ => none) (cellsFrom (s.heap.objs.size + 1) scope.names []) (bindC (envOfC qual scope s.heap.objs.size f cd).kindOf (ps.zip us) fun _ => none) s1) :
    Inv (cxOf CX P w K mg base N qual scope f cd A outer s H E) [] (start N vs) H s1 := by
  have hpl : ps.length ≤ N.length := by have := congrArg List.length S.pre; rw [List.length_take] at this; omega
  obtain ⟨h1, tk, rfl, hk⟩ := x.done
  have noA : ∀ b : Addr, b ∉ (cxOf CX P w K mg base N qual scope f cd A outer s H E).ex := fun b z => absurd (show b ∈ ([] : List Addr) from z) (by simp)
  refine ⟨⟨e0.mod, S.kind, rfl, rfl, Nat.le_refl _, fun y z c h1 h2 => ?_, fun y hy => ?_, fun y c _ h => ?_, fun _ => hd, Around.frames_deeper e0.frames, .inr ⟨rfl, rfl⟩, fun b z => absurd z (noA b), e0.bs, e0.bsz, fun b _ _ => noA b, fun b z => absurd z (noA b), e0.funs, e0.frf⟩,
    rfl, e0.bare, Un.kept hk, ⟨_, x.toInCall.ns, fun i y v h1 h2 h3 => ?_⟩, fun y c h => ⟨_, x.cell y c h⟩, e0.hok.fresh (Nat.le_refl _), fun y c h => ?_, fun p hp => absurd (show p ∈ ([] : List (Addr × Obj)) from hp) (by simp), e0.hok.kept hk, ?_⟩
  · exact name_of_addr x.apart (PySem.mem_of_lookup h1) (PySem.mem_of_lookup h2)
  · have hy : scope.names.lookup y = some .cell ∨ scope.names.lookup y = some .free := hy
    rcases hy with hy | hy
    · exact cell_has hy
    · exact absurd rfl (S.nofree _ (PySem.mem_of_lookup hy))
  · exact Nat.le_of_lt (x.above y c (PySem.mem_of_lookup h))
  · have hi : i < vs.length := by
      unfold start at h2
      by_cases hi : i < vs.length
      · exact hi
      · rw [List.getElem?_append_right (by simpa using hi)] at h2
        rw [List.getElem?_replicate] at h2
        split at h2 <;> cases h2
    have ha : vs[i]? = some v := by
      unfold start at h2
      rw [List.getElem?_append_left (by simpa using hi), List.getElem?_map] at h2
      cases e : vs[i]? with
      | none => rw [e] at h2; cases h2
      | some a => rw [e] at h2; cases h2; rfl
    obtain ⟨u, hu, rv⟩ := r.get ha
    have hp : ps[i]? = some y := by
      rw [← S.pre, List.getElem?_take_of_lt (by omega)]; exact h1
    have ndP : ps.Nodup := by rw [← S.pre]; exact S.nd.sublist (List.take_sublist _ _)
    refine ⟨u, rv, ?_⟩
    rcases S.par y (List.mem_of_getElem? hp) with k | k
    · exact .inl ⟨k, bindL_get ndP hp hu k⟩
    · obtain ⟨c, e⟩ := cell_has (n := s.heap.objs.size + 1) k
      refine .inr ⟨.inl k, c, e, ?_⟩
      have q := x.cell y c e
      rw [bindC_get ndP hp hu (by show scope.names.lookup y ≠ _; rw [k]; decide)] at q
      exact q
  · exact e0.hok.fresh (Nat.le_of_lt (x.above y c (PySem.mem_of_lookup h)))
  · unfold start
    show _ = N.length
    rw [List.length_append, List.length_map, List.length_replicate]
    omega
theorem fn_of {CX : CXT} {P : Program} {w : World} {K : PySem.W.Frag} {mg : Str → Option Value} {base : Heap} {k : Nat} {f : Addr} {name qual : Str} {params : Arguments} {body : List Stmt} {scope : Scope} {dV kV doc pm cdv ct oc : Value} {an od : Option Addr}
    {osl : Array (Option Value)} {N ps : List Str} {sp : Sp} (lk : K.lookup f = some ⟨oc, od, .func (PySem.W.fnOf name qual params body scope dV kV doc pm an cdv ct), osl⟩) (hcd : PySem.W.codeIn K cdv qual = true) (S : FnScope N ps scope)
    (len : ∀ vs H Q E, sp vs H Q E → vs.length = ps.length)
    (hbody : ∀ (A : Around) (outer : List Env) (s : Shared) (H : Hp) (vs : List V) (Q : VK) (E : XK), Room k (A.deeper (envOfC qual scope s.heap.objs.size f cdv)) → sp vs H Q E →
      ∃ t, PSs (cxOf CX P w K mg base N qual scope f cdv A outer s H E) body t ∧ t { nx := fun _ H' => Q .non H', rt := Q } (start N vs) H) :
    FnOk P w K mg base CX (k + 1) f (PySem.W.fnOf name qual params body scope dV kV doc pm an cdv ct) ps sp := by
  refine ⟨len, fun A outer s H args us vs Q E hr e0 hb r hsp => ?_⟩
  have hl := len _ _ _ _ hsp
  have KX : K.In s.heap := e0.mod.kin.keeps fun b o e => (e0.bs b o e).1
  have lim : s.heap.NoLimit := e0.mod.nolimit.keeps fun b o e => (e0.bs b o e).1
  have hkind : ∀ y ∈ ps.zip us, scope.names.lookup y.1 = some .local ∨ (scope.names.lookup y.1 = some .cell ∧ ((cellsFrom (s.heap.objs.size + 1) scope.names []).lookup y.1).isSome = true) := fun ⟨n, v⟩ hy => by
    rcases S.par n (List.of_mem_zip hy).1 with q | q
    · exact .inl q
    · exact .inr ⟨q, PySem.W.cellsFrom_some _ _ _ (.inl q)⟩
  refine codeAny_call_function hr.depth (KX _ _ lk) rfl S.co S.gen rfl (PySem.W.codeRec_of KX hcd) (hb _ _ _ _ ?_)
  refine wpAny_newFunctionEnv_cells S.kind hkind fun env he s1 x => ?_
  subst he
  refine ⟨lim.keeps x.toInCall.keep, codeAny_func ?_⟩
  obtain ⟨t, ht, hq⟩ := hbody A outer s H vs Q E (hr.deeper _) hsp
  have I : Inv (cxOf CX P w K mg base N qual scope f cdv A outer s H E) [] (start N vs) H s1 := inv_start S hr.hd e0 hl r x
  refine wpAny_mono (ht [] s1 (start N vs) H _ I hq) (fun fl s' hs => ?_) fun e s' hs => hs
  have fin : ∀ {σ' : St} {H' : Hp} {v : V} {u : Value}, Inv (cxOf CX P w K mg base N qual scope f cdv A outer s H E) [] σ' H' s' → RelV v u → Q v H' → CE outer P w H s Q u s' :=
    fun {σ' H' v u} J rv q => ⟨v, H', J.os, J.bare, J.base, J.hok, rv, q⟩
  cases fl with
  | ret u =>
    obtain ⟨v, σ', H', J, rv, q⟩ := hs
    exact fin J rv q
  | next =>
    obtain ⟨σ', H', J, q⟩ := hs
    exact fin (v := V.non) (u := Value.none) J rfl q
  | brk =>
    obtain ⟨_, _, _, q⟩ := hs
    exact False.elim q
  | cont =>
    obtain ⟨_, _, _, q⟩ := hs
    exact False.elim q
end L2
namespace L2
open PySem PySem.Spec PyProof.Rows
section
variable {X : Cx} {x : Str} {p pos : Pos} {e : Expr} {es : List Expr} {t : TA} {id T : String} {r : List V → Hp → VK → Prop}
def tCB (r : List V → Hp → VK → Prop) (t : TA) : TE := fun σ H Q => t σ H fun vs H1 => r vs H1 Q
theorem pe_callB (hc : CallR X (.builtin id) r) (hg : Gl X x) (hm : X.mg x = none) (hv : bootBuiltins x = some (.builtin id)) (ha : PA X (e :: es) t) (hn : x ≠ "__name__" := by decide) (hdb : (x == ("__debug__" : Str)) = false := by decide)
    (he : starEach (e :: es) X.env = (false, eval e X.env) :: starEach es X.env := by rfl) (hpl : (backTo pos (starEach es X.env)).any (·.1) = false := by rfl) : PE X (.Call (.Name x p) (e :: es) [] pos) (tCB r t) := by
  intro pins s σ H Q I h
  refine wpAny_Call_Name_kw (ld_blt I hg hm hv ?_ hn hdb)
  exact PyProof.Rows.callWith_builtin1 (thn (ha pos pins s σ H _ I h) fun us s1 ⟨vs, H1, I1, r1, q1⟩ => hc pins s1 σ H1 vs us Q I1 r1 q1) he hpl
theorem pe_callTy (hc : CallR X (.type T) r) (hg : Gl X x) (hm : X.mg x = none) (hv : bootBuiltins x = some (.type T)) (ha : PA X (e :: es) t) (hn : x ≠ "__name__" := by decide) (hdb : (x == ("__debug__" : Str)) = false := by decide)
    (he : starEach (e :: es) X.env = (false, eval e X.env) :: starEach es X.env := by rfl) (hpl : (backTo pos (starEach es X.env)).any (·.1) = false := by rfl) : PE X (.Call (.Name x p) (e :: es) [] pos) (tCB r t) := by
  intro pins s σ H Q I h
  refine wpAny_Call_Name_kw (ld_blt I hg hm hv ?_ hn hdb)
  exact PyProof.Rows.callWith_type1 (thn (ha pos pins s σ H _ I h) fun us s1 ⟨vs, H1, I1, r1, q1⟩ => hc pins s1 σ H1 vs us Q I1 r1 q1) he hpl
end
end L2
namespace HT
open PySem PyProof.Rows
def lexLt : List Int → List Int → Bool
  | [], [] => false
  | [], _ :: _ => true
  | _ :: _, [] => false
  | x :: xs, y :: ys => if x = y then lexLt xs ys else decide (x < y)
section
open PySem.SeqAt
open PySem.AutoSeq1 (wpAny_loadPart')
open PySem.MeetsSeq PySem.MeetsSeq2 PySem.MeetsSeq3
end
section
variable {prog : Program} {w : World} {A : Around} {E : Value → Shared → Prop} {s : Shared}
def sIx (n d : Nat) : Option Int → Nat
  | none => d
  | some v => if v < 0 then (v + (n : Int)).toNat else min v.toNat n
end
end HT
namespace L2
open PySem PySem.Spec PyProof.Rows
abbrev TO := St → Hp → (Option Int → Hp → Prop) → Prop
def PO (X : Cx) (e : Option Expr) (t : TO) : Prop :=
  ∀ (pins : List (Addr × Obj)) (s : Shared) (σ : St) (H : Hp) (Q : Option Int → Hp → Prop), Inv X pins σ H s → t σ H Q →
    wpAny (model X.prog X.w) X.A (evalPart e X.env) (fun u s' => ∃ o H', Inv X pins σ H' s' ∧ IsPart u o ∧ Q o H') X.xe s
def tNoPart : TO := fun _ H Q => Q none H
def tPart (t : TE) : TO := fun σ H Q => t σ H fun x H1 => ∃ i, x = .int i ∧ Q (some i) H1
section
variable {X : Cx} {e : Expr} {te : TE} {lo hi : Option Expr} {tl th : TO} {pos p2 : Pos}
def SlR (X : Cx) (r : V → Option Int → Option Int → Hp → VK → Prop) : Prop :=
  ∀ (pins : List (Addr × Obj)) (s : Shared) (σ : St) (H : Hp) (x : V) (v vl vu : Value) (lo hi : Option Int) (sl : Addr) (Q : VK), Inv X pins σ H s → RelV x v → s.heap.IsSliceOf sl vl vu .none → IsPart vl lo → IsPart vu hi → r x lo hi H Q →
    ∃ T id, typeLookup (.type T) "__getitem__" = pure (some (.builtin id)) ∧ s.TypeIs v T ∧ wpAny (model X.prog X.w) X.A (getItem v (.ref sl)) (EP X pins σ Q) X.xe s
theorem SlR.or {r r' : V → Option Int → Option Int → Hp → VK → Prop} (h : SlR X r) (h' : SlR X r') : SlR X (fun x lo hi H Q => r x lo hi H Q ∨ r' x lo hi H Q) := by
  intro pins s σ H x v vl vu lo hi sl Q I rx hs pl pu q
  rcases q with q | q
  · exact h pins s σ H x v vl vu lo hi sl Q I rx hs pl pu q
  · exact h' pins s σ H x v vl vu lo hi sl Q I rx hs pl pu q
def tSl (r : V → Option Int → Option Int → Hp → VK → Prop) (te : TE) (tl th : TO) : TE := fun σ H Q => te σ H fun x H1 => tl σ H1 fun l H2 => th σ H2 fun u H3 => r x l u H3 Q
def cutV (xs : List V) (lo hi : Option Int) : List V := (xs.drop (HT.sIx xs.length 0 lo)).take (HT.sIx xs.length xs.length hi - HT.sIx xs.length 0 lo)
theorem cutV_length (xs : List V) (lo hi : Option Int) : (cutV xs lo hi).length ≤ xs.length := by
  unfold cutV
  rw [List.length_take, List.length_drop]
  omega
def rSlT (K : PySem.W.Frag) : V → Option Int → Option Int → Hp → VK → Prop := fun x lo hi H Q => ∃ a xs, x = .ref a ∧ SqT K H a xs ∧
  ¬ (HT.sIx xs.length 0 lo = 0 ∧ HT.sIx xs.length xs.length hi = xs.length) ∧ ∀ p, H p = none → Q (.ref p) (upd H p (.tup (cutV xs lo hi)))
def rLtT (K : PySem.W.Frag) : R2 := fun x y H Q => ∃ a b ns ms, x = .ref a ∧ y = .ref b ∧ SqT K H a (ns.map V.int) ∧ SqT K H b (ms.map V.int) ∧ Q (.bl (HT.lexLt ns ms)) H
def rCatT (K : PySem.W.Frag) : R2 := fun x y H Q => ∃ a b xs ys, x = .ref a ∧ y = .ref b ∧ SqT K H a xs ∧ SqT K H b ys ∧ xs ≠ [] ∧ xs.length + ys.length ≤ sizeLine ∧
  (ys = [] → Q (.ref a) H) ∧ (ys ≠ [] → ∀ p, H p = none → Q (.ref p) (upd H p (.tup (xs ++ ys))))
end
end L2
namespace L2
open PySem PySem.Spec PyProof.Rows
def ixN (n : Nat) (i : Int) : Option Nat := if 0 ≤ i then (if i < n then some i.toNat else none) else if -(n : Int) ≤ i then some (i + n).toNat else none
def atI {α : Type} (xs : List α) (i : Int) : Option α := (ixN xs.length i).bind fun j => xs[j]?
theorem ixN_seq {n : Nat} {i : Int} {j : Nat} (h : ixN n i = some j) : seqIndex? i n = some j ∧ j < n ∧ -(n : Int) ≤ i ∧ i < n := by
  unfold ixN at h
  by_cases h0 : 0 ≤ i
  · rw [if_pos h0] at h
    by_cases h1 : i < n
    · rw [if_pos h1] at h
      have e : i.toNat = j := Option.some.inj h
      exact ⟨by rw [seqIndex_of h0 h1, e], by omega, by omega, h1⟩
    · rw [if_neg h1] at h; cases h
  · rw [if_neg h0] at h
    by_cases h1 : -(n : Int) ≤ i
    · rw [if_pos h1] at h
      have e : (i + n).toNat = j := Option.some.inj h
      exact ⟨by rw [seqIndex_neg (by omega) h1, e], by omega, h1, by omega⟩
    · rw [if_neg h1] at h; cases h
theorem atI_get {α : Type} {xs : List α} {i : Int} {v : α} (h : atI xs i = some v) : ∃ j, seqIndex? i xs.length = some j ∧ xs[j]? = some v ∧ j < xs.length ∧ -(xs.length : Int) ≤ i ∧ i < xs.length := by
  unfold atI at h
  cases e : ixN xs.length i with
  | none => rw [e] at h; cases h
  | some j =>
    rw [e] at h
    obtain ⟨h1, h2, h3, h4⟩ := ixN_seq e
    exact ⟨j, h1, h, h2, h3, h4⟩
theorem atI_nat {α : Type} {xs : List α} {j : Nat} {v : α} (h : xs[j]? = some v) : atI xs (j : Int) = some v := by
  have hj : j < xs.length := (List.getElem?_eq_some_iff.mp h).1
  have e : ixN xs.length (j : Int) = some j := by
    unfold ixN
    rw [if_pos (by omega), if_pos (by omega)]; simp
  unfold atI; rw [e]; exact h
def PlainIx (b : Expr) : Prop := ∀ o i, subscripted b false o i = operate [o, i] (getItem o i)
def IxR (X : Cx) (r : R2) : Prop :=
  ∀ (value slice : Expr) (pins : List (Addr × Obj)) (s : Shared) (σ : St) (H : Hp) (x y : V) (v u : Value) (Q : VK), Inv X pins σ H s → RelV x v → RelV y u → r x y H Q →
    subscripted slice false v u = operate [v, u] (getItem v u) → wpAny (model X.prog X.w) X.A (subscriptTail value slice v u) (EP X pins σ Q) X.xe s
def MtR (X : Cx) (id : String) (r : V → List V → Hp → VK → Prop) : Prop :=
  ∀ (pins : List (Addr × Obj)) (s : Shared) (σ : St) (H : Hp) (x : V) (xs : List V) (v : Value) (us : List Value) (Q : VK), Inv X pins σ H s → RelV x v → Vals xs us → r x xs H Q →
    wpAny (model X.prog X.w) X.A (call (.builtin id) (v :: us)) (EP X pins σ Q) X.xe s
section
variable {X : Cx} {a b : Expr} {ta tb : TE} {pos : Pos}
theorem IxR.or {r r' : R2} (h : IxR X r) (h' : IxR X r') : IxR X (fun x y H Q => r x y H Q ∨ r' x y H Q) := by
  intro value slice pins s σ H x y v u Q I rx ry q hs
  rcases q with q | q
  · exact h value slice pins s σ H x y v u Q I rx ry q hs
  · exact h' value slice pins s σ H x y v u Q I rx ry q hs
theorem MtR.or {id : String} {r r' : V → List V → Hp → VK → Prop} (h : MtR X id r) (h' : MtR X id r') : MtR X id (fun x xs H Q => r x xs H Q ∨ r' x xs H Q) := by
  intro pins s σ H x xs v us Q I rx rs q
  rcases q with q | q
  · exact h pins s σ H x xs v us Q I rx rs q
  · exact h' pins s σ H x xs v us Q I rx rs q
theorem pe_ix {r : R2} (hr : IxR X r) (ha : PE X a ta) (hb : PE X b tb) (hs : PlainIx b) : PE X (.Subscript a b pos) (tOp r ta tb) := by
  intro pins s σ H Q I h
  exact Subscript_ (binT ha hb I h fun v u s2 x y H2 I2 rx ry q => hr a b pins s2 σ H2 x y v u Q I2 rx ry q (hs _ _))
def rIxL (K : PySem.W.Frag) : R2 := fun x y H Q => ∃ p xs i v, x = .ref p ∧ y = .int i ∧ SqL K H p xs ∧ atI xs i = some v ∧ Q v H
def rIxT (K : PySem.W.Frag) : R2 := fun x y H Q => ∃ p xs i v, x = .ref p ∧ y = .int i ∧ SqT K H p xs ∧ atI xs i = some v ∧ Q v H
def rIxS : R2 := fun x y H Q => ∃ z i c, x = .str z ∧ y = .int i ∧ z.length ≤ sizeLine ∧ atI z.cps.toList i = some c ∧ Q (.str ⟨#[c]⟩) H
theorem ix_list : IxR X (rIxL X.K) := by
  intro value slice pins s σ H x y v u Q I rx ry h hs
  obtain ⟨p, xs, i, z, rfl, rfl, hq, he, q⟩ := h
  cases rx
  obtain ⟨t, rfl⟩ := ry
  obtain ⟨its, r, pl, hz⟩ := I.list hq
  obtain ⟨j, h1, h2, h3, h4, h5⟩ := atI_get he
  obtain ⟨w, ew, rw'⟩ := r.get h2
  have hl := r.length
  have hn := line63
  have fin : EP X pins σ Q w s := ⟨z, H, I, rw', q⟩
  by_cases h0 : 0 ≤ i
  · have hj : i.toNat = j := by
      rw [seqIndex_of h0 h5] at h1
      exact Option.some.inj h1
    exact item_listR pl.isList h0 (by omega) (by rw [hj]; simpa using ew) fin hs
  · have hj : (i + (its.toArray.size : Int)).toNat = j := by
      rw [seqIndex_neg (by omega) h4] at h1
      rw [List.size_toArray, ← hl]
      exact Option.some.inj h1
    exact subscriptTail_builtinR (x := w) pl.isList.typeIs slot_list_getitem.lookup
      (wpAny_getItem_list_neg (Q := fun r s' => r = w ∧ EP X pins σ Q r s') pl.isList (by omega) (by rw [List.size_toArray] <;> omega) (by omega) (by rw [hj]; simpa using ew) ⟨rfl, fin⟩) hs
def rIx (K : PySem.W.Frag) : R2 := fun x y H Q => rIxL K x y H Q ∨ rIxT K x y H Q ∨ rIxS x y H Q
theorem Inv.lst {pins : List (Addr × Obj)} {σ : St} {H : Hp} {s : Shared} {p : Addr} {xs : List V} (I : Inv X pins σ H s) (h : H p = some (.lst xs)) :
    ∃ (its : List Value) (n : Nat), Vals xs its ∧ s.heap.get? p = some { cls := .type "list", data := .seq its.toArray n } ∧ xs.length ≤ sizeLine := by
  obtain ⟨z, its, n, r, e⟩ := I.hok p _ h
  exact ⟨its, n, r, e, z⟩
def rSetL : V → V → V → Hp → (Hp → Prop) → Prop := fun o i v H Q => ∃ p xs k j, o = .ref p ∧ i = .int k ∧ H p = some (.lst xs) ∧ ixN xs.length k = some j ∧ Q (upd H p (.lst (xs.set j v)))
theorem slice_bounds (lo hi : Option Int) (n : Nat) : (sliceBounds lo hi none n).1 = ((HT.sIx n 0 lo : Nat) : Int) ∧ (sliceBounds lo hi none n).2.1 = ((HT.sIx n n hi : Nat) : Int) ∧ (sliceBounds lo hi none n).2.2 = 1 := by
  refine ⟨?_, ?_, rfl⟩
  · cases lo with
    | none => simp [sliceBounds, HT.sIx]
    | some i =>
      simp only [sliceBounds, HT.sIx, Option.getD_none, show (1 : Int) > 0 by decide, if_true]
      by_cases h : i < 0
      · simp only [h, if_true] <;> omega
      · simp only [h, if_false] <;> omega
  · cases hi with
    | none => simp [sliceBounds, HT.sIx]
    | some i =>
      simp only [sliceBounds, HT.sIx, Option.getD_none, show (1 : Int) > 0 by decide, if_true]
      by_cases h : i < 0
      · simp only [h, if_true] <;> omega
      · simp only [h, if_false] <;> omega
theorem slicePick_cut (its : List Value) (lo hi : Option Int) : slicePick its.toArray lo hi none = ((its.drop (HT.sIx its.length 0 lo)).take (HT.sIx its.length its.length hi - HT.sIx its.length 0 lo)).toArray := by
  obtain ⟨h1, h2, h3⟩ := slice_bounds lo hi its.toArray.size
  unfold slicePick
  rw [h1, h2, h3]
  simp only [sliceRange_one, pick_run, List.size_toArray] <;> rfl
def rSlL (K : PySem.W.Frag) : V → Option Int → Option Int → Hp → VK → Prop := fun x lo hi H Q => ∃ a xs, x = .ref a ∧ SqL K H a xs ∧ ∀ p, H p = none → Q (.ref p) (upd H p (.lst (cutV xs lo hi)))
theorem sl_list : SlR X (rSlL X.K) := by
  intro pins s σ H x v vl vu lo hi sl Q I rx hs pl pu h
  obtain ⟨a, xs, rfl, hx, q⟩ := h
  cases rx
  obtain ⟨its, r, ht, hz⟩ := I.list hx
  have hlen := r.length
  refine ⟨"list", _, slot_list_getitem.lookup, ht.isList.typeIs, ?_⟩
  refine wpAny_getItem_list_slice ht.isList hs pl pu .none (by simp) ?_ (by rw [List.size_toArray] <;> omega)
  rw [slicePick_cut, ← hlen]
  refine ⟨.ref s.heap.objs.size, _, I.laid (t' := s.toks) (o := .lst (cutV xs lo hi)) (fun b ob q => Heap.get?_push_of_some _ q) (Nat.le_refl _) ?_, rfl, q _ (I.hok.fresh (Nat.le_refl _))⟩
  exact ⟨Nat.le_trans (cutV_length xs lo hi) hz, _, 0, (r.drop (HT.sIx xs.length 0 lo)).take (HT.sIx xs.length xs.length hi - HT.sIx xs.length 0 lo), Heap.get?_push_size _ rfl⟩
def flatV : V → Bool
  | .non => true
  | .bl _ => true
  | .int _ => true
  | .str _ => true
  | _ => false
def eqV : V → V → Bool
  | .non, .non => true
  | .bl a, .bl b => a == b
  | .bl a, .int b => (if a then 1 else 0) == b
  | .int a, .bl b => a == (if b then 1 else 0)
  | .int a, .int b => a == b
  | .str a, .str b => a == b
  | _, _ => false
theorem eqAt_V {A : Around} {s : Shared} {y x : V} {u v : Value} (ry : RelV y u) (rx : RelV x v) (fy : flatV y = true) (fx : flatV x = true) : SeqAt.EqAt A s u v (eqV y x) := by
  cases y with
  | non =>
    cases ry
    cases x with
    | non => cases rx; exact SeqAt.EqAt.same _
    | bl b => cases rx; exact SeqAt.EqAt.none_bool b
    | int b => obtain ⟨t, rfl⟩ := rx; exact SeqAt.EqAt.none_int b t
    | str b => obtain ⟨t, rfl⟩ := rx; exact SeqAt.EqAt.none_str b t
    | _ => exact absurd (show false = true from fx) Bool.false_ne_true
  | bl a =>
    cases ry
    cases x with
    | non => cases rx; exact SeqAt.EqAt.bool_none a
    | bl b => cases rx; exact SeqAt.EqAt.bool_bool a b
    | int b => obtain ⟨t, rfl⟩ := rx; exact SeqAt.EqAt.bool_int a b t
    | str b => obtain ⟨t, rfl⟩ := rx; exact SeqAt.EqAt.bool_str a b t
    | _ => exact absurd (show false = true from fx) Bool.false_ne_true
  | int a =>
    obtain ⟨t', rfl⟩ := ry
    cases x with
    | non => cases rx; exact SeqAt.EqAt.int_none a t'
    | bl b => cases rx; exact SeqAt.EqAt.int_bool a t' b
    | int b => obtain ⟨t, rfl⟩ := rx; exact SeqAt.EqAt.int_int a t' b t
    | str b => obtain ⟨t, rfl⟩ := rx; exact SeqAt.EqAt.int_str a t' b t
    | _ => exact absurd (show false = true from fx) Bool.false_ne_true
  | str a =>
    obtain ⟨t', rfl⟩ := ry
    cases x with
    | non => cases rx; exact SeqAt.EqAt.str_none a t'
    | bl b => cases rx; exact SeqAt.EqAt.str_bool a t' b
    | int b => obtain ⟨t, rfl⟩ := rx; exact SeqAt.EqAt.str_int a t' b t
    | str b => obtain ⟨t, rfl⟩ := rx; exact SeqAt.EqAt.str_str a t' b t
    | _ => exact absurd (show false = true from fx) Bool.false_ne_true
  | _ => exact absurd (show false = true from fy) Bool.false_ne_true
def eqU (x : V) (u : Value) : Bool := match u with
  | .none => eqV .non x
  | .bool b => eqV (.bl b) x
  | .int i _ => eqV (.int i) x
  | .str z _ => eqV (.str z) x
  | _ => false
theorem eqU_of {x y : V} {u : Value} (r : RelV y u) (f : flatV y = true) : eqU x u = eqV y x := by
  cases y with
  | non => cases r; rfl
  | bl b => cases r; rfl
  | int i => obtain ⟨t, rfl⟩ := r; rfl
  | str z => obtain ⟨t, rfl⟩ := r; rfl
  | _ => exact absurd (show false = true from f) Bool.false_ne_true
theorem any_eqU {x : V} : ∀ {xs : List V} {us : List Value}, Vals xs us → xs.all flatV = true → us.any (eqU x) = xs.any fun y => eqV y x
  | _, _, .nil, _ => rfl
  | y :: xs, u :: us, .cons r t, f => by
    rw [List.all_cons, Bool.and_eq_true] at f
    rw [List.any_cons, List.any_cons, eqU_of r f.1, any_eqU t f.2]
theorem mem_eqAt {A : Around} {s : Shared} {x : V} {v : Value} (rx : RelV x v) (fx : flatV x = true) : ∀ {xs : List V} {us : List Value}, Vals xs us → xs.all flatV = true → ∀ u ∈ us, SeqAt.EqAt A s u v (eqU x u)
  | _, _, .nil, _ => fun u hu => by cases hu
  | y :: xs, u :: us, .cons r t, f => fun u' hu => by
    rw [List.all_cons, Bool.and_eq_true] at f
    rcases List.mem_cons.mp hu with rfl | hu
    · rw [eqU_of r f.1]; exact eqAt_V r rx f.1 fx
    · exact mem_eqAt rx fx t f.2 u' hu
def inV (x : V) (xs : List V) : Bool := xs.any fun y => eqV y x
def rIn (K : PySem.W.Frag) (neg : Bool) : R2 := fun x y H Q => ∃ p xs, y = .ref p ∧ (SqL K H p xs ∨ SqT K H p xs) ∧ flatV x = true ∧ xs.all flatV = true ∧ Q (.bl (if neg then !inV x xs else inV x xs)) H
theorem op_in_seq : OpR X (compareOp .In) (rIn X.K false) := by
  intro pins s σ H x y v u Q I rx ry h
  obtain ⟨p, xs, rfl, hq, fx, fs, q⟩ := h
  cases ry
  rcases hq with hq | hq
  · obtain ⟨its, r, pl, hz⟩ := I.list hq
    refine SeqAt.in_listAt (eqU x) pl.isList (fun w hw => mem_eqAt rx fx r fs w (by simpa using hw)) ⟨.bl _, H, I, rfl, ?_⟩
    rw [show its.toArray.any (eqU x) = its.any (eqU x) by simp, any_eqU r fs]
    exact q
  · obtain ⟨its, r, pl, hz⟩ := I.tuple hq
    refine SeqAt.in_tupleAt (eqU x) pl (fun w hw => mem_eqAt rx fx r fs w (by simpa using hw)) ⟨.bl _, H, I, rfl, ?_⟩
    rw [show its.toArray.any (eqU x) = its.any (eqU x) by simp, any_eqU r fs]
    exact q
theorem call_len_seq : CallR X (.builtin "len") (fun xs H Q => ∃ p ys, xs = [.ref p] ∧ (SqL X.K H p ys ∨ SqT X.K H p ys) ∧ Q (.int ys.length) H) := by
  intro pins s σ H xs us Q I r h
  obtain ⟨p, ys, rfl, hq, q⟩ := h
  obtain ⟨u, rfl, rx⟩ := vals1 r
  cases rx
  have hn := line63
  rcases hq with hq | hq
  · obtain ⟨its, r', pl, hz⟩ := I.list hq
    have hlen := r'.length
    exact Calls.call_len_list pl.isList (by simp only [List.size_toArray] <;> omega) ⟨.int ys.length, H, I.tok _, ⟨s.toks + 1, by rw [List.size_toArray, hlen]⟩, q⟩
  · obtain ⟨its, r', pl, hz⟩ := I.tuple hq
    have hlen := r'.length
    exact len_tuple pl (by simp only [List.size_toArray] <;> omega) ⟨.int ys.length, H, I.tok _, ⟨s.toks + 1, by rw [List.size_toArray, hlen]⟩, q⟩
theorem CallR.or {f : Value} {r r' : List V → Hp → VK → Prop} (h : CallR X f r) (h' : CallR X f r') : CallR X f (fun xs H Q => r xs H Q ∨ r' xs H Q) := by
  intro pins s σ H xs us Q I rs q
  rcases q with q | q
  · exact h pins s σ H xs us Q I rs q
  · exact h' pins s σ H xs us Q I rs q
theorem call_list_of : CallR X (.type "list") (fun xs H Q => ∃ p ys, xs = [.ref p] ∧ (SqL X.K H p ys ∨ SqT X.K H p ys) ∧ ∀ l, H l = none → Q (.ref l) (upd H l (.lst ys))) := by
  intro pins s σ H xs us Q I r h
  obtain ⟨p, ys, rfl, hq, q⟩ := h
  obtain ⟨u, rfl, rx⟩ := vals1 r
  cases rx
  have fin : ∀ (its : List Value), Vals ys its → ys.length ≤ sizeLine → ∀ (h' : Heap) (c' : Nat), (∀ b o', s.heap.get? b = some o' → h'.get? b = some o') →
      h'.get? s.heap.objs.size = some { cls := .type "list", dict := none, data := .seq its.toArray c', slots := #[] } → EP X pins σ Q (.ref s.heap.objs.size) { s with heap := h' } := fun its r' hz h' c' kp e =>
    ⟨.ref s.heap.objs.size, _, I.laid (t' := s.toks) kp (Nat.le_refl _) (show ObjOk X.prog X.w _ h' _ (.lst ys) from ⟨hz, its, c', r', e⟩), rfl, q _ (I.hok.fresh (Nat.le_refl _))⟩
  rcases hq with hq | hq
  · obtain ⟨its, r', pl, hz⟩ := I.list hq
    have hlen := r'.length
    obtain ⟨o, ho, hc, n, hd⟩ := pl.isList
    exact call_list_seq p (.inl rfl) ho hc hd (fun h' c' kp e => fin its r' hz h' c' kp e) (by simp only [List.size_toArray] <;> omega)
  · obtain ⟨its, r', pl, hz⟩ := I.tuple hq
    have hlen := r'.length
    obtain ⟨o, ho, hc, n, hd⟩ := pl
    exact call_list_seq p (.inr rfl) ho hc hd (fun h' c' kp e => fin its r' hz h' c' kp e) (by simp only [List.size_toArray] <;> omega)
def tyV (K : PySem.W.Frag) (T : String) (x : V) (H : Hp) : Prop := match x with
  | .str _ => T = "str"
  | .int _ => T = "int"
  | .ref p => (T = "list" ∧ ∃ xs, SqL K H p xs) ∨ (T = "tuple" ∧ ∃ o, K.lookup p = some o ∧ o.cls = .type "tuple" ∧ o.dict = none) ∨
      (T = "dict" ∧ ((∃ kvs, H p = some (.dK kvs)) ∨ ∃ kvs, H p = some (.dT kvs))) ∨ (T = "set" ∧ ∃ S n, H p = some (.set S n))
  | _ => False
theorem tyV_is {pins : List (Addr × Obj)} {σ : St} {H : Hp} {s : Shared} {T : String} {x : V} {v : Value} (I : Inv X pins σ H s) (r : RelV x v) (ty : tyV X.K T x H) :
    s.TypeIs v T ∧ ∀ a, v = .ref a → ∃ ob, s.heap.get? a = some ob ∧ ob.dict = none := by
  cases x with
  | str z =>
    obtain ⟨t, rfl⟩ := r
    cases (show T = "str" from ty)
    exact ⟨typeIs_str s z t, fun _ e => nomatch e⟩
  | int i =>
    obtain ⟨t, rfl⟩ := r
    cases (show T = "int" from ty)
    exact ⟨typeIs_int s i t, fun _ e => nomatch e⟩
  | ref p =>
    cases r
    rcases ty with ⟨rfl, xs, hq⟩ | ⟨rfl, o, hk, hc, hd⟩ | ⟨rfl, hk⟩ | ⟨rfl, S, n, hk⟩
    · obtain ⟨its, _, pl, _⟩ := I.list hq
      refine ⟨pl.isList.typeIs, fun a e => ?_⟩
      cases e
      obtain ⟨o, n, e, c, hd, _⟩ := pl
      exact ⟨o, e, hd⟩
    · refine ⟨⟨o, I.kIn p o hk, hc⟩, fun a e => ?_⟩
      cases e
      exact ⟨o, I.kIn _ o hk, hd⟩
    · have z : ∃ o, s.heap.get? p = some o ∧ o.ExactDict := by
        rcases hk with ⟨kvs, hk⟩ | ⟨kvs, hk⟩
        · obtain ⟨_, _, _, _, o, _, _, e, ex, _⟩ := I.hok p _ hk
          exact ⟨o, e, ex⟩
        · obtain ⟨_, _, _, _, o, _, _, e, ex, _⟩ := I.hok p _ hk
          exact ⟨o, e, ex⟩
      obtain ⟨o, e, ex⟩ := z
      refine ⟨⟨o, e, ex.1⟩, fun a e2 => ?_⟩
      cases e2
      exact ⟨o, e, ex.2.1⟩
    · obtain ⟨o, _, _, _, e, ex, _⟩ := I.hok p _ hk
      refine ⟨⟨o, e, ex.1⟩, fun a e2 => ?_⟩
      cases e2
      exact ⟨o, e, ex.2.1⟩
  | _ => exact False.elim ty
def tBM0 (K : PySem.W.Frag) (T : String) (r : V → List V → Hp → VK → Prop) (to : TE) : TE := fun σ H Q => to σ H fun x H1 => tyV K T x H1 ∧ r x [] H1 Q
def tBM (K : PySem.W.Frag) (T : String) (r : V → List V → Hp → VK → Prop) (to : TE) (t : TA) : TE := fun σ H Q => to σ H fun x H1 => tyV K T x H1 ∧ t σ H1 fun xs H2 => r x xs H2 Q
variable {o e : Expr} {es : List Expr} {to : TE} {t : TA} {name : Str} {apos cpos : Pos} {T id : String} {r : V → List V → Hp → VK → Prop}
theorem pe_bm (pa : PlainAttrs T) (slot : Slot T name id) (hty : typeOf (.builtin id) = pure (.type "method_descriptor")) (hm : MtR X id r) (ho : PE X o to) (ha : PA X (e :: es) t)
    (hbase : attributeBase o name X.env (eval o X.env) = eval o X.env := by rfl)
    (hfew : ((backTo cpos (starEach (e :: es) X.env)).all (fun x => !x.1) && (backToKw cpos (keywordEach [] X.env)).all (fun x => x.1.isSome)
      && decide ((e :: es).length + ([] : List Keyword).length + (if ([] : List Keyword).isEmpty then 0 else 1) < 30)) = true := by rfl)
    (hline : (apos.endLine == cpos.line) = true := by rfl) (hs : starEach (e :: es) X.env = (false, eval e X.env) :: starEach es X.env := by rfl) (hplain : (backTo cpos (starEach es X.env)).any (·.1) = false := by rfl) :
    PE X (.Call (.Attribute o name apos) (e :: es) [] cpos) (tBM X.K T r to t) := by
  intro pins s σ H Q I h
  refine wpAny_Call_method_late hbase hfew hline rfl (thn (ho pins s σ H _ I h) fun v s1 ⟨x, H1, I1, r1, ty, q1⟩ => ?_)
  obtain ⟨h1, h2⟩ := tyV_is I1 r1 ty
  refine ⟨T, id, pa, slot, hty, h1, h2, ?_⟩
  have hA := ha cpos pins s1 σ H1 _ I1 q1
  rw [hs] at hA ⊢
  refine Calls.callWith_builtin (by show (false || (backTo cpos (starEach es X.env)).any (·.1)) = false; rw [hplain] <;> rfl) (Calls.evalArgs_plain ?_)
  exact thn hA fun us s2 ⟨vs, H2, I2, r2, q2⟩ => hm pins s2 σ H2 x vs v us Q I2 r1 r2 q2
end
end L2
namespace L2
open PySem PySem.Spec PyProof.Rows
def MtM (X : Cx) (id : String) (r : V → List V → Hp → VK → Prop) : Prop :=
  ∀ (pins : List (Addr × Obj)) (s : Shared) (σ : St) (H : Hp) (x : V) (xs : List V) (v : Value) (us : List Value) (Q : VK), Inv X pins σ H s → RelV x v → Vals xs us → r x xs H Q →
    wpAny (model X.prog X.w) X.A (call (.builtin id) (v :: us)) (EP X pins σ Q) X.xe s
theorem Vals.one : ∀ {x : V} {us : List Value}, Vals [x] us → ∃ u, us = [u] ∧ RelV x u
  | _, _, .cons r .nil => ⟨_, rfl, r⟩
theorem Vals.two : ∀ {x y : V} {us : List Value}, Vals [x, y] us → ∃ u v, us = [u, v] ∧ RelV x u ∧ RelV y v
  | _, _, _, .cons r (.cons q .nil) => ⟨_, _, rfl, r, q⟩
theorem Vals.zero : ∀ {us : List Value}, Vals [] us → us = []
  | _, .nil => rfl
theorem Vals.dropLast {xs : List V} {us : List Value} (h : Vals xs us) : Vals xs.dropLast us.dropLast := by
  induction h with
  | nil => exact .nil
  | cons r t ih =>
    cases t with
    | nil => exact .nil
    | cons q t' => exact .cons r ih
theorem Vals.eraseIdx : ∀ {xs : List V} {us : List Value} (i : Nat), Vals xs us → Vals (xs.eraseIdx i) (us.eraseIdx i)
  | _, _, _, .nil => .nil
  | _, _, 0, .cons _ t => t
  | _, _, i + 1, .cons r t => .cons r (Vals.eraseIdx i t)
theorem Vals.reverse {xs : List V} {us : List Value} (h : Vals xs us) : Vals xs.reverse us.reverse := by
  induction h with
  | nil => exact .nil
  | cons r t ih => rw [List.reverse_cons, List.reverse_cons]; exact Vals.append ih (.cons r .nil)
section
variable {X : Cx} {pins : List (Addr × Obj)} {σ : St} {H : Hp} {s : Shared} {l b : Addr} {xs ys zs : List V}
theorem Inv.lset {its its' : List Value} {n : Nat} {f : Array Value → Array Value} {t' : Nat} (I : Inv X pins σ H s) (hH : H l = some (.lst xs))
    (e : s.heap.get? l = some { cls := .type "list", data := .seq its.toArray n }) (hf : f its.toArray = its'.toArray) (hv : Vals ys its') (hz : ys.length ≤ sizeLine) :
    Inv X pins σ (upd H l (.lst ys)) { s with heap := s.heap.update l (Obj.mapSeq f), toks := t' } := by
  have q := PySem.IsL.update e f
  rw [hf] at q
  refine I.write (x := l) (e := l) (by rw [hH]; exact trivial) (.inl rfl) (fun b' u hb hu => (Heap.get?_update_other s.heap (Obj.mapSeq f) (Ne.symm hb)).trans hu) ⟨_, q⟩ ?_
  exact ⟨hz, its', _, hv, q⟩
theorem Inv.lnew {its : List Value} {t' : Nat} (I : Inv X pins σ H s) (hv : Vals ys its) (hz : ys.length ≤ sizeLine) :
    Inv X pins σ (upd H s.heap.objs.size (.lst ys)) { s with heap := s.heap.push { cls := .type "list", data := .seq its.toArray }, toks := t' } :=
  I.laid (fun _ _ q => Heap.get?_push_of_some _ q) (Nat.le_refl _) ⟨hz, its, 0, hv, Heap.get?_push_size _ rfl⟩
theorem Inv.fresh (I : Inv X pins σ H s) : H s.heap.objs.size = none := I.hok.fresh (Nat.le_refl _)
theorem Inv.lstM (I : Inv X pins σ H s) (hH : H l = some (.lst xs)) : xs.length ≤ sizeLine ∧ ∃ (its : List Value) (n : Nat), Vals xs its ∧ xs.length = its.length ∧ s.heap.get? l = some { cls := .type "list", data := .seq its.toArray n } := by
  obtain ⟨z, its, n, r, e⟩ := I.hok l _ hH
  exact ⟨z, its, n, r, r.length, e⟩
theorem notLongL {n : Nat} (h : n ≤ sizeLine) : Builtin.List.listTooLong n = false := by
  unfold Builtin.List.listTooLong
  exact decide_eq_false (by omega)
end
section
variable {X : Cx}
def rAppend : V → List V → Hp → VK → Prop := fun x vs H Q => ∃ l xs y, x = .ref l ∧ vs = [y] ∧ H l = some (.lst xs) ∧ xs.length < sizeLine ∧ Q .non (upd H l (.lst (xs ++ [y])))
theorem mt_append : MtM X "list.append" rAppend := by
  intro pins s σ H x vs v us Q I rx rv h
  obtain ⟨l, xs, y, rfl, rfl, hH, hz, q⟩ := h
  cases rx
  obtain ⟨u, rfl, ru⟩ := rv.one
  obtain ⟨z, its, n, r, hl, e⟩ := I.lstM hH
  refine call_meets F.slot_list_append ⟨_, e, rfl⟩ F.entry_list_append (F.args_list_append_2 _ _) (PySem.list_append l its.toArray n u (by rw [List.size_toArray]; omega)) ⟨e, ?_⟩
  refine ⟨.non, _, I.lset (its' := its ++ [u]) hH e (by simp) (r.append (.cons ru .nil)) ?_, rfl, q⟩
  rw [List.length_append, List.length_singleton]
  omega
def rExtend : V → List V → Hp → VK → Prop := fun x vs H Q => ∃ l b xs zs, x = .ref l ∧ vs = [.ref b] ∧ H l = some (.lst xs) ∧ H b = some (.lst zs) ∧ xs.length + zs.length ≤ sizeLine ∧ Q .non (upd H l (.lst (xs ++ zs)))
theorem mt_extend : MtM X "list.extend" rExtend := by
  intro pins s σ H x vs v us Q I rx rv h
  obtain ⟨l, b, xs, zs, rfl, rfl, hH, hB, hz, q⟩ := h
  cases rx
  obtain ⟨u, rfl, ru⟩ := rv.one
  cases ru
  obtain ⟨z, its, n, r, hl, e⟩ := I.lstM hH
  obtain ⟨z2, its2, n2, r2, hl2, e2⟩ := I.lstM hB
  have hsz : its.toArray.size + its2.toArray.size ≤ sizeLine := by rw [List.size_toArray, List.size_toArray]; omega
  have hlong : ¬ (!its.toArray.isEmpty && Builtin.List.listTooLong (its.toArray.size + its2.toArray.size)) = true := by
    rw [notLongL hsz, Bool.and_false]
    exact Bool.false_ne_true
  refine call_meets F.slot_list_extend ⟨_, e, rfl⟩ F.entry_list_extend (F.args_list_extend_2 _ _)
    (AutoSeq1.list_extend_list_list_0 l its.toArray n b its2.toArray n2 hlong (by rw [List.size_toArray]; omega) (by omega)) ⟨e, e2, ?_⟩
  refine ⟨.non, _, I.lset (its' := its ++ its2) hH e (by simp) (r.append r2) ?_, rfl, q⟩
  rw [List.length_append]
  omega
def rPop : V → List V → Hp → VK → Prop := fun x vs H Q => ∃ l xs y, x = .ref l ∧ vs = [] ∧ H l = some (.lst xs) ∧ xs[xs.length - 1]? = some y ∧ Q y (upd H l (.lst xs.dropLast))
def rPopAt : V → List V → Hp → VK → Prop := fun x vs H Q => ∃ l xs i k y, x = .ref l ∧ vs = [.int i] ∧ H l = some (.lst xs) ∧ -(2 ^ 63) ≤ i ∧ i < 2 ^ 63 ∧ seqIndex? i xs.length = some k ∧ xs[k]? = some y ∧ Q y (upd H l (.lst (xs.eraseIdx k)))
def rReverse : V → List V → Hp → VK → Prop := fun x vs H Q => ∃ l xs, x = .ref l ∧ vs = [] ∧ H l = some (.lst xs) ∧ Q .non (upd H l (.lst xs.reverse))
def rClear : V → List V → Hp → VK → Prop := fun x vs H Q => ∃ l xs, x = .ref l ∧ vs = [] ∧ H l = some (.lst xs) ∧ Q .non (upd H l (.lst []))
def rCat : R2 := fun x y H Q => ∃ l b xs zs, x = .ref l ∧ y = .ref b ∧ H l = some (.lst xs) ∧ H b = some (.lst zs) ∧ xs.length + zs.length ≤ sizeLine ∧ ∀ p, H p = none → Q (.ref p) (upd H p (.lst (xs ++ zs)))
theorem op_cat : OpR X (binaryOp .Add) rCat := by
  intro pins s σ H x y v u Q I rx ry h
  obtain ⟨l, b, xs, zs, rfl, rfl, hH, hB, hz, q⟩ := h
  cases rx
  cases ry
  obtain ⟨z, its, n, r, hl, e⟩ := I.lstM hH
  obtain ⟨z2, its2, n2, r2, hl2, e2⟩ := I.lstM hB
  refine PySem.P.add_list e e2 ?_ (by rw [List.size_toArray, List.size_toArray]; omega)
  have ea : its.toArray ++ its2.toArray = (its ++ its2).toArray := by simp
  rw [ea]
  exact ⟨.ref _, _, I.lnew (t' := s.toks) (r.append r2) (by rw [List.length_append]; omega), rfl, q _ I.fresh⟩
def rRep : R2 := fun x y H Q => ∃ l k xs, x = .ref l ∧ y = .int k ∧ H l = some (.lst xs) ∧ -(2 ^ 63) ≤ k ∧ k < 2 ^ 63 ∧ xs.length * k.toNat ≤ sizeLine ∧
  ∀ p, H p = none → Q (.ref p) (upd H p (.lst (List.replicate k.toNat xs).flatten))
end
section
variable {prog : Program} {w : World} {A : Around} {E : Value → Shared → Prop} {s : Shared}
set_option maxRecDepth 100000 in
end
section
variable {X : Cx}
end
end L2
namespace Att
open PySem PySem.W PySem.Calls PyProof.Rows
theorem ints_of_wellAll {P : Params} {h : Heap} : ∀ (ns : List Int) (vs : List Value), WellAll P h vs (ns.map WData.int) → IntsAre vs ns := by
  intro ns
  induction ns with
  | nil =>
    intro vs w
    rw [List.map_nil] at w
    cases w
    exact .nil
  | cons n ns ih =>
    intro vs w
    rw [List.map_cons] at w
    cases w with
    | cons a b =>
      cases a
      exact .cons _ _ (ih _ b)
theorem script_of {l : OpenLaw} {n : Nat} (hn : l.most = some n) {P : Params} {h : Heap} {args : List WData} {vals : List Value}
    (hpre : l.row.toRowW.claim.pre args = true) (hwl : WellAll P h vals args) :
    ∃ a vs ns, vals = [Value.ref a] ∧ args = [WData.list (ns.map WData.int)] ∧ h.get? a = some { cls := .type "list", data := .seq vs.toArray } ∧ IntsAre vs ns ∧ ns.length ≤ n := by
  have hsh : WShape.hasAll [] args [.list .int] = true := (pre_splitW hpre).1
  have hc : l.pre.holds [] { args := args } = true := (pre_splitW hpre).2
  obtain ⟨d, r, rfl, h1, h2⟩ := hasAllW_cons hsh
  obtain rfl := hasAllW_nil h2
  obtain ⟨xs, rfl, h3⟩ := hasW_list h1
  obtain ⟨ns, rfl⟩ := items_int h3
  have hlen : ns.length ≤ n := by
    unfold OpenLaw.pre at hc
    have h4 : (WTm.not (.lt (.lit (.int (n : Int))) (.len (.arg 0)))).holds [] { args := [.list (ns.map .int)] } = true := by
      have h4 := (holds_andW hc).1
      rw [hn] at h4
      exact h4
    have h5 := condW_of h4 (w_not (w_lt w_lit (w_len_list (w_arg rfl))))
    rw [List.length_map] at h5
    refine Nat.le_of_not_lt fun q => ?_
    have q' : (n : Int) < ((ns.length : Nat) : Int) := by omega
    first
      | (rw [decide_eq_true q'] at h5; exact absurd h5 (by decide))
      | (simp at h5; omega)
  cases hwl with
  | cons w1 w2 =>
    cases w2
    cases w1 with
    | list ho hall => exact ⟨_, _, ns, rfl, rfl, ho, ints_of_wellAll ns _ hall, hlen⟩
theorem post_true (l : OpenLaw) (args : List WData) : l.row.toRowW.claim.post args (.bool true) args = true :=
  postW_of (r := l.row.toRowW) (X := (true == true))
    (show WShape.has [] (.bool true) .bool = true by first | rfl | decide | simp [WShape.has, WShape.arms, WShape.armsAll])
    (show (WTm.eq .res (.lit (.bool true))).value [] { args := args, res := some (.bool true), after := args } = some (.bool (true == true)) from w_eq_bool (w_res rfl) w_lit) rfl
theorem attach_call {l : OpenLaw} {n : Nat} {q : Program} {loose : List Str} {XP : (Str → Option Value) → Heap → Prop} {YP : World → Heap → Prop} {d : DefRec}
    (hn : l.most = some n) (hdf : d.params.defaults = [])
    (call : ∀ (w : World) (s₀ s₁ : Shared) (mg mb : Str → Option Value) (fa : Addr) (o : Obj) (pm cd doc : Value) (a : Addr) (vs : List Value) (ns : List Int),
      Ground q loose [] XP w s₀ mg mb s₁.heap → YP w s₁.heap →
      s₁.heap.get? fa = some o → o.data = .func (docDef d.name d.params d.body d.scope pm cd doc) → s₁.heap.CodeRec cd d.name → mg d.name = some (.ref fa) →
      s₁.heap.get? a = some { cls := .type "list", data := .seq vs.toArray } → IntsAre vs ns → ns.length ≤ n → s₁.gens = #[] →
      codeAny (model l.prog w) callerA (.call (.ref fa) ⟨[.ref a], []⟩) (fun r s' => r = .ok (.ret (.bool true)) ∧ OldK s₁.heap s'.heap ∧ s'.os = s₁.os ∧ AllBare s'.gens) s₁) :
    WalkO q loose XP YP l.row.toRowW d [] (fun f vs => PySem.call f vs) := by
  intro w s₀ s₁ mg mb G Y fa o pm cd doc dV kV ho hd hcd hD hmg hg args vals as hpre hlay hrd hwl hlo
  obtain rfl : dV = .none := Dflts.none hD hdf
  obtain rfl : kV = .none := Dflts.noKw hD
  obtain ⟨a, vs, ns, rfl, rfl, hobj, hints, hlen⟩ := script_of hn hpre hwl
  refine enter_call (codeAny_mono (call w s₀ s₁ mg mb fa o pm cd doc a vs ns G Y ho (fd_plain hd) hcd hmg hobj hints hlen hg) fun r s' hq => ?_)
  obtain ⟨rfl, h2, h3, h4⟩ := hq
  exact ⟨.inl ⟨.bool true, .bool true, [], rfl, fun _ => rfl, .bool true, post_true l _, fun _ => ⟨List.Pairwise.nil, fun _ hm => (nomatch hm)⟩⟩, h2, h3, h4⟩
section
variable {prog : Program} {w : World} {A : Around} {E : Value → Shared → Prop} {s : Shared} {K : Frag}
def noObjs (h : Heap) : Heap := { h with objs := #[] }
def ledger (h : Heap) (L d : Addr) : List (Addr × Obj) := (List.range h.objs.size).filterMap fun a => if a = L ∨ a = d then none else (h.get? a).map fun o => (a, o)
end
end Att
namespace L2
open PySem PySem.Spec PyProof.Rows
theorem vals_ints : ∀ {vs : List Value} {ns : List Int}, IntsAre vs ns → Vals (ns.map V.int) vs
  | _, _, .nil => .nil
  | _, _, .cons n t h => .cons ⟨t, rfl⟩ (vals_ints h)
def Only (H : Hp) : Prop := ∀ b, H b = none ∨ ∃ o xs, H b = some (.frz o (.lst xs))
theorem law_call {P : Program} {w : World} {K : PySem.W.Frag} {mg mb : Str → Option Value} {CX : CXT} {k : Nat} {fa a : Addr} {fd : FuncData} {x : Str} {sp : Sp} {s₁ : Shared} {vs : List Value} {ns : List Int}
    (KX : K.In s₁.heap) (hns : s₁.heap.Ns mainGlobals mg) (hb : s₁.heap.Ns builtinsNs mb) (hbb : ∀ x : Str, x ≠ "__name__" → mb x = bootBuiltins x) (hlim : s₁.heap.NoLimit) (hg : s₁.gens = #[])
    (ha : s₁.heap.get? a = some { cls := .type "list", data := .seq vs.toArray }) (hi : IntsAre vs ns) (hl : ns.length ≤ sizeLine) (hr : Room k callerA)
    (F : ∀ base : Heap, K.In base → base.Ns mainGlobals mg → FnOk P w K mg base CX k fa fd [x] sp) (hbind : ∀ (s : Shared) (u : Value), BindsTo s fd ⟨[u], []⟩ [(x, u)])
    (hsp : ∀ H : Hp, Only H → SqL K H a (ns.map V.int) → sp [.ref a] H (fun v _ => v = .bl true) fun _ _ _ => False)
    (hCX : ∀ H e s', CX [] H s₁ (fun _ _ _ => False) e s' → False) :
    codeAny (model P w) callerA (.call (.ref fa) ⟨[.ref a], []⟩) (fun r s' => r = .ok (.ret (.bool true)) ∧ OldK s₁.heap s'.heap ∧ s'.os = s₁.os ∧ AllBare s'.gens) s₁ := by
  have rv := vals_ints hi
  have lenV := hi.length
  have core : ∀ H : Hp, Only H → SqL K H a (ns.map V.int) → HOk P w H s₁.heap → (∀ b, H b ≠ none → b = a) → (H a ≠ none → K.lookup a = none) →
      codeAny (model P w) callerA (.call (.ref fa) ⟨[.ref a], []⟩) (fun r s' => r = .ok (.ret (.bool true)) ∧ OldK s₁.heap s'.heap ∧ s'.os = s₁.os ∧ AllBare s'.gens) s₁ := by
    intro H hO hS hok hA hK
    have base_of : ∀ {b : Addr} {o : Obj}, s₁.heap.get? b = some o → H b = none → (hidT s₁.heap H).get? b = some o := fun e n => hidT_get e n
    have noA : ∀ {b : Addr} {o : Obj} {es : Array DictEntry} {ep : Nat}, s₁.heap.get? b = some o → o.data = .dict es ep → H b = none := fun {b o es ep} e d => by
      cases q : H b with
      | none => rfl
      | some u =>
        have e' : b = a := hA b (by rw [q]; simp)
        subst e'
        rw [ha] at e; cases e
        have d' : Data.seq vs.toArray _ = Data.dict es ep := d
        cases d'
    have nsK : ∀ {b : Addr} {m : Str → Option Value}, s₁.heap.Ns b m → (hidT s₁.heap H).Ns b m := fun {b m} ⟨o, es, ep, e, d, r⟩ => ⟨o, es, ep, base_of e (noA e d), d, r⟩
    have hKb : K.In (hidT s₁.heap H) := fun b o e => base_of (KX b o e) (by
      cases q : H b with
      | none => rfl
      | some u =>
        have e' : b = a := hA b (by rw [q]; simp)
        subst e'
        rw [hK (by rw [q]; simp)] at e; cases e)
    have hM : Mod K mg (hidT s₁.heap H) := ⟨hKb, nsK hns, ⟨mb, nsK hb, hbb⟩, let ⟨mc, h1, h2⟩ := hlim; ⟨mc, nsK h1, h2⟩⟩
    have e0 : Env0 P w K mg (hidT s₁.heap H) callerA [] s₁ H := ⟨rfl, hM, fun b o e => of_hidT e, Nat.le_of_eq (hidT_size _ _), trivial, fun b hb => absurd (show b ∈ ([] : List Addr) from hb) (by simp), hok, .of_eq hg⟩
    refine codeAny_mono ((F _ hKb (nsK hns)).run callerA [] s₁ H ⟨[.ref a], []⟩ [.ref a] [.ref a] _ _ hr e0 (hbind s₁ (.ref a)) (.cons rfl .nil) (hsp H hO hS)) fun r s' h => ?_
    cases r with
    | error e => exact (hCX H e s' h).elim
    | ok fl =>
      cases fl with
      | next => exact False.elim h
      | brk => exact False.elim h
      | cont => exact False.elim h
      | ret u =>
        obtain ⟨v, H', os, bare, un, hok', r', q⟩ := h
        have q' : v = .bl true := q
        subst q'
        obtain rfl : u = Value.bool true := r'
        refine ⟨rfl, OldK.of_keep fun b o e => ?_, os, bare⟩
        cases q : H b with
        | none => exact un.keep b o e q (by intro z; exact absurd (show b ∈ ([] : List Addr) from z) (by simp)) (by simp)
        | some u =>
          rcases hO b with z | ⟨ob, xs, z⟩
          · rw [q] at z; cases z
          · have z2 := un.frzs b ob _ z
            obtain ⟨e1, _⟩ := hok b _ z
            obtain ⟨e2, _⟩ := hok' b _ z2
            rw [e] at e1; cases e1
            exact e2
  cases hk : K.lookup a with
  | some o =>
    have e := KX a o hk
    rw [ha] at e
    cases e
    refine core (fun _ => none) (fun _ => .inl rfl) (.inr ⟨_, vs.toArray, _, hk, rfl, rfl, rfl, by rw [List.size_toArray, lenV]; exact hl, by simpa using rv⟩) (fun b u z => by have z' : (none : Option HO) = some u := z; cases z') (fun b z => absurd rfl z) fun z => absurd rfl z
  | none =>
    refine core (fun b => if b = a then some (.frz { cls := .type "list", data := .seq vs.toArray } (.lst (ns.map V.int))) else none) (fun b => ?_) (.inl (.inr ⟨{ cls := .type "list", data := .seq vs.toArray }, if_pos rfl⟩)) (fun b u z => ?_) (fun b z => ?_) fun _ => hk
    · by_cases hb : b = a
      · exact .inr ⟨_, _, if_pos hb⟩
      · exact .inl (if_neg hb)
    · by_cases hb : b = a
      · have z' := (if_pos hb).symm.trans z
        cases z'
        subst hb
        exact ⟨ha, by rw [List.length_map]; exact hl, vs, _, rv, ha⟩
      · have z' := (if_neg hb).symm.trans z
        cases z'
    · by_cases hb : b = a
      · exact hb
      · exact absurd (if_neg hb) z
end L2
namespace L2
open PySem PySem.Spec PyProof.Rows
abbrev KOf {K : PySem.W.Frag} {h : Heap} (_ : K.In h) : PySem.W.Frag := K
theorem walk_of {l : PySem.W.OpenLaw} {n k : Nat} {q : Program} {loose : List Str} {XP : (Str → Option Value) → Heap → Prop} {YP : World → Heap → Prop} {d : DefRec} {K : Params → PySem.W.Frag} {CX : World → CXT} {sp : World → Sp} {x : Str}
    (hn : l.most = some n) (hn2 : n ≤ sizeLine) (hdf : d.params.defaults = []) (hr : Room k callerA)
    (hY : ∀ (w : World) (h : Heap), YP w h → (K w.params).In h)
    (F : ∀ (w : World) (mg : Str → Option Value) (fa : Addr) (h : Heap), (K w.params).In h → h.Ns mainGlobals mg → mg d.name = some (.ref fa) →
      ∃ fd : FuncData, (∀ (s : Shared) (u : Value), BindsTo s fd ⟨[u], []⟩ [(x, u)]) ∧
        ∀ base : Heap, (K w.params).In base → base.Ns mainGlobals mg → FnOk l.prog w (K w.params) mg base (CX w) k fa fd [x] (sp w))
    (hsp : ∀ (w : World) (H : Hp) (a : Addr) (ns : List Int), ns.length ≤ n → Only H → SqL (K w.params) H a (ns.map V.int) → sp w [.ref a] H (fun v _ => v = .bl true) fun _ _ _ => False)
    (hCX : ∀ (w : World) (H : Hp) (s : Shared) (e : Value) (s' : Shared), CX w [] H s (fun _ _ _ => False) e s' → False) :
    PySem.W.WalkO q loose XP YP l.row.toRowW d [] (fun f vs => PySem.call f vs) := by
  refine Att.attach_call hn hdf fun w s₀ s₁ mg mb fa o pm cd doc a vs ns G Y ho hd hcd hmg hobj hints hlen hg => ?_
  have KX := hY w _ Y
  obtain ⟨fd, hb, hF⟩ := F w mg fa _ KX G.T.g hmg
  exact law_call KX G.T.g G.T.b G.T.builtins G.T.nolimit hg hobj hints (Nat.le_trans hlen hn2) hr hF hb (fun H hO hS => hsp w H a ns hlen hO hS) fun H e s' => hCX w H s₁ e s'
end L2
namespace L2
open PySem PySem.Spec PyProof.Rows
def inClass (s : Stmt) (j : Nat) : Stmt := match s with
  | .ClassDef _ _ _ body _ _ _ _ _ _ _ => body.getD j (.Pass ⟨0, 0, 0, 0⟩)
  | _ => .Pass ⟨0, 0, 0, 0⟩
def defArgs (s : Stmt) : Arguments := match s with
  | .FunctionDef _ a _ _ _ _ _ _ _ _ => a
  | _ => { posonlyargs := [], args := [], vararg := none, kwonlyargs := [], kw_defaults := [], kwarg := none, defaults := [] }
def defBody (s : Stmt) : List Stmt := match s with
  | .FunctionDef _ _ b _ _ _ _ _ _ _ => b
  | _ => []
def defScope (s : Stmt) : Scope := match s with
  | .FunctionDef _ _ _ _ _ _ sc _ _ _ => sc
  | _ => { kind := .function, names := [], isGenerator := false, isCoroutine := false }
abbrev CX0 : CXT := fun _ _ _ _ _ _ => False
abbrev E0 : XK := fun _ _ _ => False
theorem pass0 {X : Cx} : Passes CX0 X E0 := fun _ _ _ _ _ _ _ h => h.elim
structure Fun (K : PySem.W.Frag) (x qual : Str) (st : Stmt) (f : Addr) (fd : FuncData) : Prop where
  ex : ∃ (oc : Value) (od : Option Addr) (kV doc pm : Value) (an : Option Addr) (cdv ct : Value) (osl : Array (Option Value)),
    fd = PySem.W.fnOf x qual (defArgs st) (defBody st) (defScope st) .none kV doc pm an cdv ct ∧ K.lookup f = some ⟨oc, od, .func fd, osl⟩ ∧ PySem.W.codeIn K cdv qual = true
  kp : PySem.W.keepIn K (.ref f) = true
section
variable {P : Program} {w : World} {K : PySem.W.Frag} {mg : Str → Option Value} {base : Heap}
theorem Fun.ok {x qual : Str} {st : Stmt} {f : Addr} {fd : FuncData} {N ps : List Str} {k : Nat} {sp : Sp} (F : Fun K x qual st f fd) (S : FnScope N ps (defScope st)) (len : ∀ vs H Q E, sp vs H Q E → vs.length = ps.length)
    (hbody : ∀ (cdv : Value) (A : Around) (outer : List Env) (s : Shared) (H : Hp) (vs : List V) (Q : VK) (E : XK), Room k (A.deeper (envOfC qual (defScope st) s.heap.objs.size f cdv)) → sp vs H Q E →
      ∃ t, PSs (cxOf CX0 P w K mg base N qual (defScope st) f cdv A outer s H E).nox (defBody st) t ∧ t { nx := fun _ H' => Q .non H', rt := Q } (start N vs) H) : FnOk P w K mg base CX0 (k + 1) f fd ps sp := by
  obtain ⟨oc, od, kV, doc, pm, an, cdv, ct, osl, rfl, lk, hcd⟩ := F.ex
  refine fn_of lk hcd S len fun A outer s H vs Q E hr hsp => ?_
  obtain ⟨t, h, q⟩ := hbody cdv A outer s H vs Q E hr hsp
  exact ⟨t, h.nox, q⟩
theorem Fun.binds {x qual : Str} {st : Stmt} {f : Addr} {fd : FuncData} {ps : List Str} (F : Fun K x qual st f fd)
    (h : ∀ (kV doc pm : Value) (an : Option Addr) (cdv ct : Value) (us : List Value), us.length = ps.length → bindArgs (PySem.W.fnOf x qual (defArgs st) (defBody st) (defScope st) .none kV doc pm an cdv ct) ⟨us, []⟩ = pure (ps.zip us)) : Binds K fd ps [] := by
  obtain ⟨oc, od, kV, doc, pm, an, cdv, ct, osl, rfl, lk, hcd⟩ := F.ex
  exact .all (h kV doc pm an cdv ct)
theorem fun_mk {x qual : Str} {st : Stmt} {f : Addr} {oc : Value} {od an : Option Addr} {osl : Array (Option Value)} {kV doc pm cdv ct : Value} (l : K.lookup f = some ⟨oc, od, .func (PySem.W.fnOf x qual (defArgs st) (defBody st) (defScope st) .none kV doc pm an cdv ct), osl⟩)
    (c : PySem.W.codeIn K cdv qual = true) (k : PySem.W.keepIn K (.ref f) = true) : Fun K x qual st f (PySem.W.fnOf x qual (defArgs st) (defBody st) (defScope st) .none kV doc pm an cdv ct) := ⟨⟨oc, od, kV, doc, pm, an, cdv, ct, osl, rfl, l, c⟩, k⟩
end
theorem small1000 {n : Nat} (h : n ≤ 1000) : n < sizeLine := Nat.lt_of_le_of_lt h (by decide)
section
variable {X : Cx}
theorem pv (i : Nat) {x : Str} {pos : Pos} (hN : X.N[i]? = some x := by rfl) (hv : Vis X.env.scope x := by first | exact Or.inl rfl | exact Or.inr (Or.inl rfl) | exact Or.inr (Or.inr rfl)) (hd : (x == ("__debug__" : Str)) = false := by decide)
    (hcd : (x == ("__classdict__" : Str)) = false := by decide) : PE X (.Name x pos) (tVar i) := pe_var hN hv hd hcd
end
theorem iteF {A B : Prop} (h : B) : if false = true then A else B := by
  rw [if_neg Bool.false_ne_true]
  exact h
theorem iteT {A B : Prop} (h : A) : if true = true then A else B := by
  rw [if_pos rfl]
  exact h
def Same (H H' : Hp) : Prop := ∀ b o, H b = some o → H' b = some o
theorem Same.refl (H : Hp) : Same H H := fun _ _ h => h
theorem Same.trans {H H1 H2 : Hp} (a : Same H H1) (b : Same H1 H2) : Same H H2 := fun c o h => b c o (a c o h)
theorem Same.free {H H' : Hp} (e : Same H H') {l : Addr} (h : H' l = Option.none) : H l = Option.none := by
  cases q : H l with
  | none => rfl
  | some o =>
    rw [e l o q] at h
    cases h
theorem Same.seq {K : PySem.W.Frag} {H H' : Hp} {a : Addr} {xs : List V} (e : Same H H') (h : SqL K H a xs) : SqL K H' a xs := by
  rcases h with (h | ⟨o, h⟩) | h
  · exact .inl (.inl (e _ _ h))
  · exact .inl (.inr ⟨o, e _ _ h⟩)
  · exact .inr h
end L2
set_option Elab.async false
set_option linter.all false
set_option maxRecDepth 100000
set_option maxHeartbeats 4000000
namespace L2
open PySem PySem.Spec PyProof.Rows
abbrev GL : Int := 100000000000000000000000000000000000000000000000000000000000000000000000000000000000000000000000000000000000000000000000000000000000000000000000000000000000000000000000000000000000000000000000000000000
theorem bits_GL {k : Int} (h1 : -GL < k) (h2 : k < GL) : Builtin.Int.intBits k ≤ 1000 := by
  unfold Builtin.Int.intBits
  split
  · exact Nat.zero_le _
  · have hn : k.natAbs < 100000000000000000000000000000000000000000000000000000000000000000000000000000000000000000000000000000000000000000000000000000000000000000000000000000000000000000000000000000000000000000000000000000000 := by
      unfold GL at h1 h2; omega
    have hp : (100000000000000000000000000000000000000000000000000000000000000000000000000000000000000000000000000000000000000000000000000000000000000000000000000000000000000000000000000000000000000000000000000000000 : Nat) ≤ 2 ^ 999 := by decide +kernel
    have : k.natAbs.log2 < 999 := by
      rcases Nat.eq_zero_or_pos k.natAbs with h0 | hp'
      · rw [h0]; decide
      · exact (Nat.log2_lt (Nat.ne_of_gt hp')).mpr (Nat.lt_of_lt_of_le hn hp)
    omega
def CMulB (i j : Int) : Prop := (-GL < i ∧ i < GL) ∧ (-GL < j ∧ j < GL)
theorem CMulB.ok {i j : Int} (h : CMulB i j) : IntMulOk i j := PySem.IntMulOk.of_le (bits_GL h.1.1 h.1.2) (bits_GL h.2.1 h.2.2) (by decide)
def CMulA (i j : Int) : Prop := CMul i j ∨ CMulB i j
def CDivB (i j : Int) : Prop := 0 < j ∧ j < GL
def CDivS (i j : Int) : Prop := j ≠ 0 ∧ -GL < j ∧ j < GL
theorem noPy {i j : Int} (h1 : -GL < j) (h2 : j < GL) : Builtin.divisionGoesByPylong i j = false := by
  refine PyProof.noPylong_of_log2 ?_
  have hn : j.natAbs < 100000000000000000000000000000000000000000000000000000000000000000000000000000000000000000000000000000000000000000000000000000000000000000000000000000000000000000000000000000000000000000000000000000000 := by
    unfold GL at h1 h2; omega
  have hp : (100000000000000000000000000000000000000000000000000000000000000000000000000000000000000000000000000000000000000000000000000000000000000000000000000000000000000000000000000000000000000000000000000000000 : Nat) ≤ 2 ^ 999 := by decide +kernel
  have : j.natAbs.log2 < 999 := by
    rcases Nat.eq_zero_or_pos j.natAbs with h0 | hp'
    · rw [h0]; decide
    · exact (Nat.log2_lt (Nat.ne_of_gt hp')).mpr (Nat.lt_of_lt_of_le hn hp)
  omega
section
variable {X : Cx} {a b : Expr} {ta tb : TE} {pos : Pos}
theorem op_mulA : OpR X (binaryOp .Mult) (rI CMulA fun i j => .int (i * j)) := opI fun _ _ _ _ _ _ _ hc q => mul_int q (hc.elim CMul.ok CMulB.ok)
theorem op_fdivB : OpR X (binaryOp .FloorDiv) (rI CDivB fun i j => .int (i / j)) := opI fun i j _ _ _ _ _ hc q => by
  have h1 : (0 : Int) < j := hc.1
  have h2 := hc.2
  exact floordiv_int (by omega) (by rw [Int.fdiv_eq_ediv_of_nonneg i (by omega)]; exact q) (.inl (noPy (by unfold GL; omega) h2))
theorem pe_powK {i j k : Int} {n1 n2 : Nat} {p1 p2 : Pos} (hc : CPow i j) (e : i ^ j.toNat = k) : PE X (.BinOp (.Constant (.int i) n1 p1) .Pow (.Constant (.int j) n2 p2) pos) (tC (.int k)) := by
  intro pins s σ H Q I h
  refine pe_op op_pow pe_int pe_int pins s σ H Q I ⟨i, j, rfl, rfl, hc, ?_⟩
  show Q (.int (i ^ j.toNat)) H
  rw [e]; exact h
def clsV : V → Value
  | .ty T => .type T
  | .ref C => .ref C
  | _ => .none
def rIsi (K : PySem.W.Frag) : List V → Hp → VK → Prop := fun xs H Q => ∃ x c t b, xs = [x, c] ∧ TyOf K H x t ∧ (∃ T, c = .ty T ∨ ∃ C, c = .ref C) ∧ PySem.W.kitOne K t (clsV c) = some b ∧ Q (.bl b) H
theorem call_isi : CallR X (.builtin "isinstance") (rIsi X.K) := by
  intro pins s σ H xs us Q I r h
  obtain ⟨x, c, t, b, rfl, ty, hc, e, q⟩ := h
  obtain ⟨v, w, rfl, rx, rw'⟩ := vals2 r
  have : w = clsV c := by
    obtain ⟨T, rfl | ⟨C, rfl⟩⟩ := hc
    · exact rw'
    · exact rw'
  subst this
  exact isinst_ok I rx ty e fun tk => ⟨.bl b, H, I.tok _, rfl, q⟩
def eqVs (xs ys : List V) : Bool := (List.range (min xs.length ys.length)).all (fun j => eqV (xs.getD j .non) (ys.getD j .non)) && xs.length == ys.length
theorem Vals.getD : ∀ {xs : List V} {us : List Value} (j : Nat) (h : j < us.length), Vals xs us → RelV (xs.getD j .non) us[j]
  | _, _, j, h, .nil => absurd h (Nat.not_lt_zero _)
  | _, _, 0, _, .cons r _ => r
  | _, _, j + 1, h, .cons _ t => Vals.getD j (Nat.lt_of_succ_lt_succ h) t
def rEqT (K : PySem.W.Frag) : R2 := fun x y H Q => ∃ p q xs ys, x = .ref p ∧ y = .ref q ∧ SqT K H p xs ∧ SqT K H q ys ∧ xs.all flatV = true ∧ ys.all flatV = true ∧ Q (.bl (eqVs xs ys)) H
end
end L2
set_option Elab.async false
set_option linter.all false
set_option maxRecDepth 100000
set_option maxHeartbeats 4000000
namespace L2
open PySem PySem.Spec PyProof.Rows
def Has (P : Program) (w : World) (K : PySem.W.Frag) (mg : Str → Option Value) (base : Heap) (x : Str) (k : Nat) (ps : List Str) (sp : Sp) : Prop :=
  ∃ (f : Addr) (fd : FuncData), FnOk P w K mg base CX0 k f fd ps sp ∧ mg x = some (.ref f) ∧ PySem.W.keepIn K (.ref f) = true ∧ Binds K fd ps []
theorem pe_callH {X : Cx} {x : Str} {k n : Nat} {ps : List Str} {sp : Sp} {p pos : Pos} {e : Expr} {es : List Expr} {t : TA} (F : Has X.prog X.w X.K X.mg X.base x k ps sp) (hr : Room n X.A) (hg : Gl X x) (ha : PA X (e :: es) t) (hk : k ≤ n := by decide)
    (hdb : (x == ("__debug__" : Str)) = false := by decide) (he : starEach (e :: es) X.env = (false, eval e X.env) :: starEach es X.env := by rfl) (hpl : (backTo pos (starEach es X.env)).any (·.1) = false := by rfl) :
    PE X (.Call (.Name x p) (e :: es) [] pos) (tCall sp [] E0 t) := by
  obtain ⟨f, fd, G, hm, kp, hb⟩ := F
  exact pe_call G (hr.mono hk) hg hm kp hb .nil pass0 ha hdb he hpl
theorem pe_callBH {X : Cx} {x : Str} {id : String} {p pos : Pos} {e : Expr} {es : List Expr} {t : TA} {r : List V → Hp → VK → Prop} (hc : CallR X (.builtin id) r) (hm : X.mg x = none) (hg : Gl X x) (hv : bootBuiltins x = some (.builtin id)) (ha : PA X (e :: es) t) (hn : x ≠ "__name__" := by decide) (hdb : (x == ("__debug__" : Str)) = false := by decide)
    (he : starEach (e :: es) X.env = (false, eval e X.env) :: starEach es X.env := by rfl) (hpl : (backTo pos (starEach es X.env)).any (·.1) = false := by rfl) : PE X (.Call (.Name x p) (e :: es) [] pos) (tCB r t) :=
  pe_callB hc hg hm hv ha hn hdb he hpl
theorem same_new {H : Hp} {p : Addr} (h : H p = none) (o : HO) : Same H (upd H p o) := fun b u q => by rw [upd_ne (ne_of_none q h)]; exact q
theorem Same.at {H H' : Hp} (g : Same H H') {b : Addr} {o : HO} (h : H b = some o) : H' b = some o := g b o h
theorem small {n : Nat} (h : n ≤ 1000) : n ≤ sizeLine := Nat.le_of_lt (small1000 h)
section
variable {σ : St} {H : Hp} {Q : VK} {D : Ends} {K : PySem.W.Frag}
theorem r_var {i : Nat} {v : V} (e : σ[i]? = some (some v)) (h : Q v H) : tVar i σ H Q := ⟨v, e, h⟩
theorem r_c {v : V} (h : Q v H) : tC v σ H Q := h
theorem r_op {r : R2} {ta tb : TE} (h : ta σ H fun x H1 => tb σ H1 fun y H2 => r x y H2 Q) : tOp r ta tb σ H Q := h
theorem r_I {C : Int → Int → Prop} {g : Int → Int → V} {i j : Int} (hc : C i j) (h : Q (g i j) H) : rI C g (.int i) (.int j) H Q := ⟨i, j, rfl, rfl, hc, h⟩
theorem r_I0 {g : Int → Int → V} {i j : Int} (h : Q (g i j) H) : rI0 g (.int i) (.int j) H Q := ⟨i, j, rfl, rfl, h⟩
theorem r_eqI {i j : Int} (h : Q (.bl (decide (i = j))) H) : rEq (.int i) (.int j) H Q := ⟨rfl, by rw [show decide (V.int i = V.int j) = decide (i = j) by by_cases e : i = j <;> simp [e]]; exact h⟩
theorem r_test {t : TE} {R : Bool → Hp → Prop} (h : t σ H fun x H' => ∃ k, x = .bl k ∧ R k H') : tTest t σ H R := h
theorem r_tB {t : TE} {R : Bool → Hp → Prop} (h : t σ H fun x H' => ∃ k, x = .bl k ∧ R k H') : tB t σ H R := h
theorem r_exbl {b : Bool} {R : Bool → Prop} (h : R b) : ∃ k, V.bl b = .bl k ∧ R k := ⟨b, rfl, h⟩
theorem r_and {t u : TT} {R : Bool → Hp → Prop} (h : t σ H fun c H1 => if c = true then u σ H1 R else R false H1) : tAnd t u σ H R := h
theorem r_or {t u : TT} {R : Bool → Hp → Prop} (h : t σ H fun c H1 => if c = true then R true H1 else u σ H1 R) : tOr t u σ H R := h
theorem r_not {t : TT} {R : Bool → Hp → Prop} (h : t σ H fun c H1 => R (!c) H1) : tNot t σ H R := h
theorem r_andV {ta tb : TE} (h : ta σ H fun x H1 => ∃ c, x = .bl c ∧ if c = true then tb σ H1 Q else Q (.bl false) H1) : tAndV ta tb σ H Q := h
theorem r_notV {ta : TE} (h : ta σ H fun x H1 => ∃ c, x = .bl c ∧ Q (.bl (!c)) H1) : tNotV ta σ H Q := h
theorem r_seq {t u : TS} (h : t { D with nx := u D } σ H) : tSeq t u D σ H := h
theorem r_next (h : D.nx σ H) : tNext D σ H := h
theorem r_asg {te : TE} {g : TG} (h : te σ H fun x H1 => g x σ H1 D.nx) : tAsg te g D σ H := h
theorem r_name {i : Nat} {v : V} {R : St → Hp → Prop} (h : R (σ.set i (some v)) H) : gName i v σ H R := h
theorem r_ret {te : TE} (h : te σ H D.rt) : tRet te D σ H := h
theorem r_drop {te : TE} (h : te σ H fun _ H1 => D.nx σ H1) : tDrop te D σ H := h
theorem r_ifS {c : TT} {t u : TS} (h : c σ H fun b H1 => if b = true then t D σ H1 else u D σ H1) : tIfS c t u D σ H := h
theorem r_nil {R : List V → Hp → Prop} (h : R [] H) : tNil σ H R := h
theorem r_cons {ta : TE} {tr : TA} {R : List V → Hp → Prop} (h : ta σ H fun x H1 => tr σ H1 fun xs H2 => R (x :: xs) H2) : tCons ta tr σ H R := h
theorem r_call {sp : Sp} {dvs : List V} {E : XK} {t : TA} (h : t σ H fun vs H1 => sp (vs ++ dvs) H1 Q E) : tCall sp dvs E t σ H Q := h
theorem r_cb {r : List V → Hp → VK → Prop} {t : TA} (h : t σ H fun vs H1 => r vs H1 Q) : tCB r t σ H Q := h
def kTup (Q : VK) (xs : List V) (H : Hp) : Prop := xs.length ≤ sizeLine ∧ ∀ p, H p = none → Q (.ref p) (upd H p (.tup xs))
def kLst (Q : VK) (xs : List V) (H : Hp) : Prop := xs.length ≤ sizeLine ∧ ∀ p, H p = none → Q (.ref p) (upd H p (.lst xs))
theorem r_tup {t : TA} (h : t σ H (kTup Q)) : tTup t σ H Q := h
theorem r_lst {t : TA} (h : t σ H (kLst Q)) : tLst t σ H Q := h
theorem r_kTup {xs : List V} (hz : xs.length ≤ sizeLine) (h : ∀ p H', Same H H' → H' p = some (.tup xs) → Q (.ref p) H') : kTup Q xs H := ⟨hz, fun p hp => h p _ (same_new hp _) upd_same⟩
theorem r_ixL {p : Addr} {xs : List V} {i : Int} {v : V} (h : SqL K H p xs) (e : atI xs i = some v) (q : Q v H) : rIxL K (.ref p) (.int i) H Q := ⟨p, xs, i, v, rfl, rfl, h, e, q⟩
theorem r_isi {x c : V} {t : Value} {b : Bool} (ty : TyOf K H x t) (hc : ∃ T, c = .ty T ∨ ∃ C, c = .ref C) (e : PySem.W.kitOne K t (clsV c) = some b) (q : Q (.bl b) H) : rIsi K [x, c] H Q := ⟨x, c, t, b, rfl, ty, hc, e, q⟩
end
def CPos (_ j : Int) : Prop := 0 < j
def CNn (_ j : Int) : Prop := 0 ≤ j
def CNz (_ j : Int) : Prop := j ≠ 0
theorem op_modP {X : Cx} : OpR X (binaryOp .Mod) (rI CPos fun i j => .int (i % j)) := op_mod
theorem op_shrP {X : Cx} : OpR X (binaryOp .RShift) (rI CNn fun i j => .int (i / 2 ^ j.toNat)) := op_shr
section
variable {σ : St} {H : Hp} {Q : VK} {D : Ends} {K : PySem.W.Frag}
def kForL (K : PySem.W.Frag) (g : TG) (tb : TS) (D : Ends) (σ : St) (x : V) (H : Hp) : Prop := ∃ a, x = .ref a ∧ (∃ xs, SqL K H a xs) ∧ ∃ W : Nat → Nat → St → Hp → Prop, (∃ m, W 0 m σ H) ∧ ∀ i m σ H, W i m σ H →
  ((Itl K a).stop i H ∧ D.nx σ H) ∨ ((Itl K a).go i H ∧ ∃ N : St → Hp → Prop, (∀ σ' H', N σ' H' → ∃ m', m' < m ∧ W (i + 1) m' σ' H') ∧ ∀ x H', (Itl K a).yld i H x H' → g x σ H' fun σ2 H2 => tb { D with nx := N, ct := N, bk := D.nx } σ2 H2)
theorem r_forL {tl : TE} {g : TG} {tb : TS} (h : tl σ H (kForL K g tb D σ)) : tFor (iList K tl) g tb D σ H := h
theorem r_kForL {g : TG} {tb : TS} {a : Addr} {xs : List V} (hx : SqL K H a xs) (Pv : Nat → St → Hp → Prop) (h0 : Pv 0 σ H) (hl : ∀ i σ H, i ≤ xs.length → Pv i σ H → SqL K H a xs)
    (hs : ∀ i x σ H, xs[i]? = some x → Pv i σ H → g x σ H fun σ2 H2 => tb { D with nx := Pv (i + 1), ct := Pv (i + 1), bk := D.nx } σ2 H2) (hd : ∀ σ H, Pv xs.length σ H → D.nx σ H) : kForL K g tb D σ (.ref a) H := ⟨a, rfl, ⟨xs, hx⟩, for_list Pv h0 hl hs hd⟩
def kForR (g : TG) (tb : TS) (D : Ends) (σ : St) (vs : List V) (H : Hp) : Prop := ∃ j : Int, vs = [.int j] ∧ -(2 ^ 62) ≤ j ∧ j < 2 ^ 62 ∧ ∃ W : Nat → Nat → St → Hp → Prop, (∃ m, W 0 m σ H) ∧ ∀ i m σ H, W i m σ H →
  ((Itr 0 j.toNat).stop i H ∧ D.nx σ H) ∨ ((Itr 0 j.toNat).go i H ∧ ∃ N : St → Hp → Prop, (∀ σ' H', N σ' H' → ∃ m', m' < m ∧ W (i + 1) m' σ' H') ∧ ∀ x H', (Itr 0 j.toNat).yld i H x H' → g x σ H' fun σ2 H2 => tb { D with nx := N, ct := N, bk := D.nx } σ2 H2)
theorem r_forR {ta : TA} {g : TG} {tb : TS} (h : ta σ H (kForR g tb D σ)) : tFor (iRng1 ta) g tb D σ H := h
theorem r_kForR {g : TG} {tb : TS} {j : Int} (h1 : -(2 ^ 62) ≤ j) (h2 : j < 2 ^ 62) (Pv : Nat → St → Hp → Prop) (h0 : Pv 0 σ H)
    (hs : ∀ i σ H, i < j.toNat → Pv i σ H → g (.int (0 + i)) σ H fun σ2 H2 => tb { D with nx := Pv (i + 1), ct := Pv (i + 1), bk := D.nx } σ2 H2) (hd : ∀ σ H, Pv j.toNat σ H → D.nx σ H) : kForR g tb D σ [.int j] H := ⟨j, rfl, h1, h2, for_range Pv h0 hs hd⟩
theorem r_gTup {n : Nat} {t : TGs} {a : Addr} {xs : List V} {R : St → Hp → Prop} (h : H a = some (.tup xs)) (hn : xs.length = n) (k : t xs σ H R) : gTup K n t (.ref a) σ H R := ⟨a, xs, rfl, SqT.of h, hn, k⟩
theorem r_gCons {t : TG} {u : TGs} {v : V} {r : List V} {R : St → Hp → Prop} (h : t v σ H fun σ' H' => u r σ' H' R) : gCons t u (v :: r) σ H R := ⟨v, r, rfl, h⟩
theorem r_gNil {R : St → Hp → Prop} (h : R σ H) : gNil [] σ H R := ⟨rfl, h⟩
end
def rAbs : List V → Hp → VK → Prop := fun xs H Q => ∃ i, xs = [.int i] ∧ Q (.int (if i < 0 then -i else i)) H
def rMax2 : List V → Hp → VK → Prop := fun xs H Q => ∃ i j, xs = [.int i, .int j] ∧ Q (.int (if j > i then j else i)) H
def rMin2 : List V → Hp → VK → Prop := fun xs H Q => ∃ i j, xs = [.int i, .int j] ∧ Q (.int (if j < i then j else i)) H
def rInt1 : List V → Hp → VK → Prop := fun xs H Q => (∃ i, xs = [.int i] ∧ Q (.int i) H) ∨ ∃ k, xs = [.bl k] ∧ Q (.int (if k then 1 else 0)) H
def rLenS (K : PySem.W.Frag) : List V → Hp → VK → Prop := fun xs H Q => ∃ p ys, xs = [.ref p] ∧ (SqL K H p ys ∨ SqT K H p ys) ∧ Q (.int ys.length) H
section
variable {X : Cx} {H : Hp} {Q : VK} {K : PySem.W.Frag}
theorem call_lenN : CallR X (.builtin "len") (rLenS X.K) := call_len_seq
theorem r_lenL {p : Addr} {ys : List V} (h : SqL K H p ys) (q : Q (.int ys.length) H) : rLenS K [.ref p] H Q := ⟨p, ys, rfl, .inl h, q⟩
end
theorem bo_int : bootBuiltins "int" = some (.type "int") := by decide +kernel
theorem bo_bool : bootBuiltins "bool" = some (.type "bool") := by decide +kernel
theorem bo_list : bootBuiltins "list" = some (.type "list") := by decide +kernel
theorem bo_isinstance : bootBuiltins "isinstance" = some (.builtin "isinstance") := by decide +kernel
theorem bo_len : bootBuiltins "len" = some (.builtin "len") := by decide +kernel
def kitC (T T' : String) : Option Bool := if (Value.type T == Value.type T') = true then some true else if PySem.W.kitMeta T' = true then (fastBuiltinMro T).map (·.contains (Value.type T')) else none
theorem kit_ty (K : PySem.W.Frag) (T T' : String) {b : Bool} (h : kitC T T' = some b) : PySem.W.kitOne K (.type T) (.type T') = some b := h
theorem kit_int_int (K : PySem.W.Frag) : PySem.W.kitOne K (.type "int") (.type "int") = some true := kit_ty K _ _ (by decide +kernel)
theorem kit_int_bool (K : PySem.W.Frag) : PySem.W.kitOne K (.type "int") (.type "bool") = some false := kit_ty K _ _ (by decide +kernel)
theorem kit_bool_int (K : PySem.W.Frag) : PySem.W.kitOne K (.type "bool") (.type "int") = some true := kit_ty K _ _ (by decide +kernel)
theorem kit_str_int (K : PySem.W.Frag) : PySem.W.kitOne K (.type "str") (.type "int") = some false := kit_ty K _ _ (by decide +kernel)
theorem kit_list_list (K : PySem.W.Frag) : PySem.W.kitOne K (.type "list") (.type "list") = some true := kit_ty K _ _ (by decide +kernel)
theorem kit_list_int (K : PySem.W.Frag) : PySem.W.kitOne K (.type "list") (.type "int") = some false := kit_ty K _ _ (by decide +kernel)
theorem kit_tuple_int (K : PySem.W.Frag) : PySem.W.kitOne K (.type "tuple") (.type "int") = some false := kit_ty K _ _ (by decide +kernel)
theorem kit_NoneType_int (K : PySem.W.Frag) : PySem.W.kitOne K (.type "NoneType") (.type "int") = some false := kit_ty K _ _ (by decide +kernel)
theorem kit_dict_int (K : PySem.W.Frag) : PySem.W.kitOne K (.type "dict") (.type "int") = some false := kit_ty K _ _ (by decide +kernel)
section
variable {H : Hp} {Q : VK} {K : PySem.W.Frag}
theorem r_isi_ii {i : Int} (q : Q (.bl true) H) : rIsi K [.int i, .ty "int"] H Q := r_isi (.int i) ⟨_, .inl rfl⟩ (kit_int_int K) q
theorem r_isi_ib {i : Int} (q : Q (.bl false) H) : rIsi K [.int i, .ty "bool"] H Q := r_isi (.int i) ⟨_, .inl rfl⟩ (kit_int_bool K) q
end
theorem i_d {c : Prop} [Decidable c] {A B : Prop} (h1 : c → A) (h2 : ¬ c → B) : if decide c = true then A else B := by
  by_cases h : c
  · rw [if_pos (decide_eq_true h)]; exact h1 h
  · rw [if_neg (by rw [decide_eq_false h]; decide)]; exact h2 h
theorem i_b {b : Bool} {A B : Prop} (h1 : b = true → A) (h2 : b = false → B) : if b = true then A else B := by
  cases b with
  | true => rw [if_pos rfl]; exact h1 rfl
  | false => rw [if_neg (by decide)]; exact h2 rfl
theorem i_nT {A B : Prop} (h : B) : if (!true) = true then A else B := h
end L2
set_option Elab.async false
set_option linter.all false
set_option maxRecDepth 100000
set_option maxHeartbeats 4000000
namespace L2
open PySem PySem.Spec PyProof.Rows
def cxComp (X : Cx) (scope : Scope) (cl : List (Str × Addr)) (N' : List Str) (C : Addr) (s₂ : Shared) (H₂ : Hp) (fp : List Addr) : Cx where
  prog := X.prog
  w := X.w
  K := X.K
  mg := X.mg
  base := X.base
  A := X.A
  N := N'
  s₀ := s₂
  H₀ := H₂
  env := compEnvC scope cl C X.env
  outer := X.stack
  stack := X.stack
  ex := fp
  calm := X.calm
  fn := fun _ => false
  pn := []
  xe := fun _ _ => False
def ClOk (cells : List (Str × Addr)) : List (Str × Addr) → Prop
  | [] => True
  | p :: r => cells.lookup p.1 = some p.2 ∧ ClOk cells r
theorem ClOk.look {cells : List (Str × Addr)} : ∀ {cl : List (Str × Addr)} {x : Str} {c : Addr}, ClOk cells cl → cl.lookup x = some c → cells.lookup x = some c
  | [], _, _, _, h => by simp at h
  | (y, d) :: r, x, c, ⟨h1, h2⟩, h => by
    rw [List.lookup_cons] at h
    cases e : x == y with
    | true =>
      rw [e] at h
      have e' : x = y := eq_of_beq e
      cases h
      rw [e']; exact h1
    | false =>
      rw [e] at h
      exact ClOk.look h2 h
def FrOk (X : Cx) (scope : Scope) : List Str → List Nat → Prop
  | [], [] => True
  | y :: r, j :: js => (X.N[j]? = some y ∧ scope.names.lookup y = some .free ∧ (X.env.kindOf y = some .cell ∨ X.env.kindOf y = some .free)) ∧ FrOk X scope r js
  | _, _ => False
theorem FrOk.get {X : Cx} {scope : Scope} : ∀ {fr : List Str} {js : List Nat} {k : Nat} {y : Str}, FrOk X scope fr js → fr[k]? = some y → ∃ j, js[k]? = some j ∧ X.N[j]? = some y ∧ scope.names.lookup y = some .free ∧ (X.env.kindOf y = some .cell ∨ X.env.kindOf y = some .free)
  | [], _, _, _, _, h => by simp at h
  | _ :: _, [], _, _, h, _ => h.elim
  | y :: r, j :: js, 0, z, ⟨h1, _⟩, h => by simp at h; subst h; exact ⟨j, rfl, h1⟩
  | y :: r, j :: js, k + 1, z, ⟨_, h2⟩, h => by
    obtain ⟨j', e, q⟩ := FrOk.get (k := k) h2 (by simpa using h)
    exact ⟨j', by simpa using e, q⟩
theorem FrOk.len {X : Cx} {scope : Scope} : ∀ {fr : List Str} {js : List Nat}, FrOk X scope fr js → fr.length = js.length
  | [], [], _ => rfl
  | [], _ :: _, h => h.elim
  | _ :: _, [], h => h.elim
  | _ :: r, _ :: js, h => by rw [List.length_cons, List.length_cons, FrOk.len h.2]
theorem relabel_look {env : Env} : ∀ {names : List (Str × NameKind)} {x : Str}, (∀ y ∈ names, y.2 ≠ .cell) →
    ((names.map fun (n, k) => if (k == NameKind.free && env.scope.kind == .function && env.kindOf n == some .cell) then (n, NameKind.cell) else (n, k)).lookup x = some .cell ∨
     (names.map fun (n, k) => if (k == NameKind.free && env.scope.kind == .function && env.kindOf n == some .cell) then (n, NameKind.cell) else (n, k)).lookup x = some .free) → names.lookup x = some .free
  | [], _, _, h => by simp at h
  | (n, k) :: r, x, hc, h => by
    have ih := @relabel_look env r x (fun y hy => hc y (List.mem_cons_of_mem _ hy))
    rw [List.map_cons] at h
    dsimp only at h
    by_cases hb : (k == NameKind.free && env.scope.kind == .function && env.kindOf n == some .cell) = true
    · rw [if_pos hb] at h
      rw [List.lookup_cons] at h
      rw [List.lookup_cons]
      cases e : x == n with
      | true =>
        have : k = .free := by simp at hb; exact hb.1.1
        rw [this]
      | false =>
        rw [e] at h
        exact ih h
    · rw [if_neg hb] at h
      rw [List.lookup_cons] at h
      rw [List.lookup_cons]
      cases e : x == n with
      | true =>
        rw [e] at h
        have hk : k ≠ .cell := hc (n, k) List.mem_cons_self
        rcases h with h | h
        · exact absurd (Option.some.inj h) hk
        · exact h
      | false =>
        rw [e] at h
        exact ih h
theorem relabel_free {env : Env} (hk : env.scope.kind = .function) {x : Str} : ∀ {names : List (Str × NameKind)}, names.lookup x = some .free → (env.kindOf x = some .cell ∨ env.kindOf x = some .free) →
    ((names.map fun (n, k) => if (k == NameKind.free && env.scope.kind == .function && env.kindOf n == some .cell) then (n, NameKind.cell) else (n, k)).lookup x = some .cell ∨
     (names.map fun (n, k) => if (k == NameKind.free && env.scope.kind == .function && env.kindOf n == some .cell) then (n, NameKind.cell) else (n, k)).lookup x = some .free)
  | [], h, _ => by simp at h
  | (n, k) :: r, h, hx => by
    have ih := @relabel_free env hk x r
    rw [List.lookup_cons] at h
    rw [List.map_cons]
    dsimp only
    cases e : x == n with
    | true =>
      rw [e] at h
      have ek : k = .free := Option.some.inj h
      have en : x = n := eq_of_beq e
      subst ek
      rcases hx with hx | hx
      · left
        have hb : ((NameKind.free == NameKind.free) && env.scope.kind == .function && env.kindOf n == some .cell) = true := by rw [← en, hx, hk]; decide
        rw [if_pos hb, List.lookup_cons, e]
      · right
        have hb : ¬ ((NameKind.free == NameKind.free) && env.scope.kind == .function && env.kindOf n == some .cell) = true := by rw [← en, hx, hk]; decide
        rw [if_neg hb, List.lookup_cons, e]
    | false =>
      rw [e] at h
      rcases ih h hx with q | q
      · left
        split <;> rw [List.lookup_cons, e] <;> exact q
      · right
        split <;> rw [List.lookup_cons, e] <;> exact q
section
variable {X : Cx} {pins : List (Addr × Obj)} {σ : St} {H : Hp} {s : Shared}
theorem HOk.track {P : Program} {w : World} {H : Hp} {h : Heap} {a : Addr} {o : HO} (x : HOk P w H h) (hn : H a = none) (new : ObjOk P w (upd H a o) h a o) : HOk P w (upd H a o) h := fun b u e => by
  by_cases hb : b = a
  · subst hb; rw [upd_same] at e; cases e; exact new
  · rw [upd_ne hb] at e
    exact (x b u e).stay (fun c v _ q => q) (fun c q => by rw [upd_ne (ne_of_none q hn)]; exact q) fun c xs q => by rw [upd_ne (ne_of_none q hn)]; exact q
theorem Inv.track {a : Addr} {o : HO} (I : Inv X pins σ H s) (f : FpOk X pins H a) (new : ObjOk X.prog X.w (upd H a o) s.heap a o) : Inv X pins σ (upd H a o) s := by
  obtain ⟨f0, f1, f2, f3, f4, f5⟩ := f
  have up : ∀ b, H b = none → b ≠ a → upd H a o b = none := fun b e n => by rw [upd_ne n]; exact e
  have st : ∀ {b u}, H b = some u → upd H a o b = some u := fun {b u} e => by rw [upd_ne (ne_of_none e f0)]; exact e
  have na : ∀ b ob, X.s₀.heap.get? b = some ob → b ∉ X.ex → b ≠ a := fun b ob e hx z => by
    rcases f3 with q | q
    · exact hx (z ▸ q)
    · exact absurd (Nat.lt_of_lt_of_le (Heap.lt_size e) (z ▸ q)) (Nat.lt_irrefl _)
  refine ⟨I.ok, I.os, I.bare, ⟨I.base.keep, I.base.slot, fun b ob e n hx => up b (I.base.free b ob e n hx) (na b ob e hx), I.base.there, fun b xs e => st (I.base.tups b xs e), fun b ob u e => st (I.base.frzs b ob u e), fun b ps e => ?_⟩, I.loc, I.cell, up _ I.free (Ne.symm f1), fun x c e => up c (I.freeC x c e) (f4 x c e), fun p hp => ?_, I.hok.track f0 new, I.len⟩
  · obtain ⟨m, q⟩ := I.base.tbls b ps e
    exact ⟨m, st q⟩
  · obtain ⟨e, n, r⟩ := I.pin p hp
    exact ⟨e, up _ n (f5 p hp), r⟩
end
def PIfs (Y : Cx) (ifs : List Expr) (t : TT) : Prop :=
  ∀ (pins : List (Addr × Obj)) (s : Shared) (σ : St) (H : Hp) (R : Bool → Hp → Prop), Inv Y pins σ H s → t σ H R →
    wpAny (model Y.prog Y.w) Y.A (forIn ifs true fun c r => if r = true then do let ok ← isTrue c Y.env (eval c Y.env); pure (ForInStep.yield ok) else pure (ForInStep.yield r)) (TP Y pins σ R) Y.xe s
def tNoIf : TT := fun _ H R => R true H
theorem pifs_nil {Y : Cx} : PIfs Y [] tNoIf := fun _ _ _ H _ I h => wpAny_tests_nil ⟨H, I, h⟩
def kComp (is : List Nat) (tt : TT) (te : TE) (σ : St) (Q : VK) (J : It) (H1 : Hp) : Prop := ∃ W : Nat → Nat → List V → Hp → Prop, (∃ m, W 0 m [] H1) ∧ ∀ i m ys H, W i m ys H → ys.length ≤ sizeLine ∧
  ((J.stop i H ∧ ∀ p, H p = none → Q (.ref p) (upd H p (.lst ys))) ∨
   (J.go i H ∧ ys.length < sizeLine ∧ ∀ x H', J.yld i H x H' → tt (some x :: is.map fun j => (σ[j]?).getD none) H' fun ok H2 =>
     if ok = true then te (some x :: is.map fun j => (σ[j]?).getD none) H2 fun y H3 => ∃ m', m' < m ∧ W (i + 1) m' (ys ++ [y]) H3 else ∃ m', m' < m ∧ W (i + 1) m' ys H2))
def tComp (is : List Nat) (wi : TI) (tt : TT) (te : TE) : TE := fun σ H Q => wi σ H fun J H1 => kComp is tt te σ Q J H1
section
variable {X : Cx} {elt iter : Expr} {ifs : List Expr} {x : Str} {px pos : Pos} {scope : Scope} {cl : List (Str × Addr)} {fr : List Str} {is : List Nat} {wi : TI} {tt : TT} {te : TE}
theorem cxComp_ok {pins : List (Addr × Obj)} {σ : St} {H₂ : Hp} {s₂ : Shared} {C : Addr} {fp : List Addr} {N' : List Str} (I : Inv X pins σ H₂ s₂) (hC : s₂.heap.objs.size ≤ C) (hf : ∀ b ∈ fp, FpOk X pins H₂ b) (hfl : ∀ b ∈ fp, b < s₂.heap.objs.size)
    (hcell : ∀ y ∈ scope.names, y.2 ≠ .cell) (hkind : scope.kind = .function) (hcl : ClOk X.env.cells cl) (hfree : (scope.names.all fun p => p.2 != .free || (cl.lookup p.1).isSome) = true) : (cxComp X scope cl N' C s₂ H₂ fp).Ok where
  mod := I.mod
  kind := hkind
  glob := I.ok.glob
  blt := I.ok.blt
  above := hC
  inj := fun x y c h1 h2 => I.ok.inj x y c (hcl.look h1) (hcl.look h2)
  has := fun y h => by
    have h' := relabel_look (env := X.env) hcell h
    have hm : (y, NameKind.free) ∈ scope.names := by
      have aux : ∀ {l : List (Str × NameKind)}, l.lookup y = some .free → (y, NameKind.free) ∈ l := by
        intro l
        induction l with
        | nil => intro z; simp at z
        | cons p r ih =>
          intro z
          obtain ⟨n, k⟩ := p
          rw [List.lookup_cons] at z
          cases e : y == n with
          | true => rw [e] at z; cases z; rw [eq_of_beq e]; exact List.mem_cons_self
          | false => rw [e] at z; exact List.mem_cons_of_mem _ (ih z)
      exact aux h'
    have q : ((NameKind.free != NameKind.free) || (cl.lookup y).isSome) = true := List.all_eq_true.mp hfree _ hm
    have q' : (cl.lookup y).isSome = true := by rw [bne_self_eq_false, Bool.false_or] at q; exact q
    exact Option.isSome_iff_exists.mp q'
  cab := fun _ _ h _ => by cases h
  hd := I.ok.hd
  frames := I.ok.frames
  stk := .inl rfl
  exf := fun b hb => ⟨Nat.ne_of_lt (Nat.lt_of_lt_of_le (hfl b hb) hC), fun y c e => (hf b hb).2.2.2.2.1 y c (hcl.look e)⟩
  bs := I.bs
  bsz := Nat.le_trans I.ok.bsz I.sz
  noex := fun b o e hb => by
    rcases (hf b hb).2.2.2.1 with q | q
    · exact I.ok.noex b o e q
    · exact absurd (Nat.lt_of_lt_of_le (Heap.lt_size e) (Nat.le_trans I.ok.bsz q)) (Nat.lt_irrefl _)
  exfs := fun b hb z => by
    rcases List.mem_cons.mp (I.stkSub b z) with q | q
    · exact (hf b hb).2.1 q
    · exact (hf b hb).2.2.1 q
  funs := I.stack
  frf := I.stkFree
def CompOut (X : Cx) (pins : List (Addr × Obj)) (σ : St) (Q : VK) (acc : Value) (C : Addr) (r : Result) (s' : Shared) : Prop := match r with
  | .ok _ => ∃ (D : Addr) (H' : Hp) (m : Str → Option Value), acc = .ref D ∧ Inv X pins σ H' s' ∧ s'.heap.Ns C m ∧ FpOk X pins H' C ∧ Q (.ref D) H'
  | .error _ => False
theorem unlet {M : Model} {A : Around} {E : Value → Shared → Prop} {s : Shared} {x : Str} {px : Pos} {it u : Value} {Q1 : Unit → Shared → Prop} {α : Type} {t : Sem α} {Q2 : α → Shared → Prop} (h : wpAny M A (letOwnedTupleGo (.Name x px) it u) Q1 E s) (k : ∀ s, Q1 () s → wpAny M A t Q2 E s) : wpAny M A t Q2 E s := by
  have z : wpAny M A (letOwnedTupleGo (.Name x px) it u >>= fun _ => t) Q2 E s := wpAny_bind (thn h fun _ s q => k s q)
  rw [show letOwnedTupleGo (.Name x px) it u = pure () from rfl, pure_bind] at z
  exact z
theorem comp_core {pins : List (Addr × Obj)} {σ : St} {Q : VK} {E : Value → Shared → Prop} {s₂ : Shared} {H₂ : Hp} {it : Addr} {fp : List Addr} {tn : Nat → Heap → Prop} {J : It}
    (hc : X.calm = true) (hcell : ∀ y ∈ scope.names, y.2 ≠ .cell) (hkind : scope.kind = .function) (hx : scope.names.lookup x = some .local) (hcl : ClOk X.env.cells cl)
    (hfree : (scope.names.all fun p => p.2 != .free || (cl.lookup p.1).isSome) = true) (hfr : FrOk X scope fr is) (hnd : (x :: fr).Nodup)
    (ht : ∀ C s₂ H₂ fp, PIfs (cxComp X scope cl (x :: fr) C s₂ H₂ fp) ifs tt) (he : ∀ C s₂ H₂ fp, PE (cxComp X scope cl (x :: fr) C s₂ H₂ fp) elt te)
    (I : Inv X pins σ H₂ s₂) (T : Turn X.prog X.w X.K (.Name x px) J fp it tn) (st : tn 0 s₂.heap) (hf : ∀ b ∈ fp, FpOk X pins H₂ b) (R : kComp is tt te σ Q J H₂) :
    wpAny (model X.prog X.w) X.A (newList []) (fun acc s₃ => wpAny (model X.prog X.w) X.A (newFunctionEnv scope X.env.globals cl [] X.env.qual none .none (some X.env)) (fun cenv s₄ =>
      codeAny (model X.prog X.w) X.A (.compStart (.ListComp elt [⟨.Name x px, iter, ifs, 0⟩] scope pos) 0 (.ref it) acc { cenv with scope := relabel scope X.env }) (CompOut X pins σ Q acc cenv.locals) s₄) E s₃) E s₂ := by
  obtain ⟨W, ⟨m0, w0⟩, turn⟩ := R
  refine wpAny_newObj_type (wpAny_newFunctionEnv hcell (by intro y hy; simp at hy) (fun h₁ hns₁ hsb₁ => ?_) hkind)
  dsimp only at hns₁ hsb₁ ⊢
  generalize hH2 : s₂.heap.push { cls := .type "list", dict := none, data := .seq ([] : List Value).toArray } = G2 at hns₁ hsb₁ ⊢
  have hC : G2.objs.size = s₂.heap.objs.size + 1 := by rw [← hH2, Heap.size_push]
  have hDC : s₂.heap.objs.size ≠ G2.objs.size := by rw [hC]; exact Nat.ne_of_lt (Nat.lt_succ_self _)
  have below : ∀ b, b < s₂.heap.objs.size → b ≠ G2.objs.size ∧ b ≠ s₂.heap.objs.size := fun b hb => ⟨by rw [hC]; exact Nat.ne_of_lt (Nat.lt_succ_of_lt hb), Nat.ne_of_lt hb⟩
  have hfl : ∀ b ∈ fp, b < s₂.heap.objs.size := fun b hb => by obtain ⟨o, e, _⟩ := T.obj _ _ st b hb; exact Heap.lt_size e
  have old : ∀ b o, s₂.heap.get? b = some o → h₁.get? b = some o := fun b o e => hsb₁.extBut b o (below b (Heap.lt_size e)).1 (Heap.get?_push_of_some _ (hH2 ▸ Heap.get?_push_of_some _ e))
  have hacc : h₁.get? s₂.heap.objs.size = some { cls := .type "list", data := .seq ([] : List Value).toArray 0 } := hsb₁.extBut _ _ hDC (Heap.get?_push_of_some _ (hH2 ▸ Heap.get?_push_size _ rfl))
  have hfresh : ∀ b, s₂.heap.objs.size ≤ b → H₂ b = none := fun b hb => I.hok.fresh hb
  have hCle : s₂.heap.objs.size ≤ G2.objs.size := by rw [hC]; exact Nat.le_succ _
  generalize hCe : G2.objs.size = C at *
  generalize hDe : s₂.heap.objs.size = D at *
  have ok : (cxComp X scope cl (x :: fr) C s₂ H₂ fp).Ok := cxComp_ok I (by rw [hDe]; exact hCle) hf (by rw [hDe]; exact hfl) hcell hkind hcl hfree
  have hYc : (cxComp X scope cl (x :: fr) C s₂ H₂ fp).calm = true := hc
  have hDfp : ∀ b ∈ fp, b ≠ D := fun b hb => Nat.ne_of_lt (hfl b hb)
  have hDst : D ∉ frs X.stack := fun z => by
    rcases List.mem_cons.mp (I.stkSub D z) with q | q
    · have := I.lt; rw [hDe, ← q] at this; exact Nat.lt_irrefl _ this
    · exact I.nofs (by rw [hDe]; exact Nat.le_refl _) q
  have hfY : ∀ {H' : Hp} {its : List Value} {n : Nat}, (∀ b ∈ fp, H' b = none) → ∀ b ∈ fp, FpOk (cxComp X scope cl (x :: fr) C s₂ H₂ fp) [(D, { cls := .type "list", data := .seq its.toArray n })] H' b := fun hn b hb =>
    ⟨hn b hb, (ok.exf b hb).1, ok.exfs b hb, .inl hb, (ok.exf b hb).2, fun p hp => by
      have e : p = (D, { cls := .type "list", data := .seq _ _ }) := List.mem_singleton.mp hp
      rw [e]; exact Ne.symm (hDfp b hb)⟩
  have lenF : (is.map fun j => (σ[j]?).getD none).length = fr.length := by rw [List.length_map, hfr.len]
  have I0 : Inv (cxComp X scope cl (x :: fr) C s₂ H₂ fp) [(D, { cls := .type "list", data := .seq ([] : List Value).toArray 0 })] (none :: is.map fun j => (σ[j]?).getD none) H₂ { s₂ with heap := h₁, toks := s₂.toks + ([] : List (Str × Value)).length } := by
    refine ⟨ok, rfl, I.bare, Un.kept old, ⟨_, hns₁, fun i y v e1 e2 e3 => ?_⟩, fun y c e => ?_, hfresh C hCle, fun y c e => I.freeC y c (hcl.look e), fun p hp => ?_, I.hok.kept old, ?_⟩
    · cases i with
      | zero => cases e2
      | succ k =>
        have e1' : fr[k]? = some y := e1
        have e2' : (is.map fun j => (σ[j]?).getD none)[k]? = some (some v) := e2
        obtain ⟨j, hj, hN, hfy, hkx⟩ := hfr.get e1'
        rw [List.getElem?_map, hj] at e2'
        have e4 : (σ[j]?).getD none = some v := Option.some.inj e2'
        have e5 : σ[j]? = some (some v) := by
          cases q : σ[j]? with
          | none => rw [q] at e4; cases e4
          | some o => rw [q] at e4; have e4' : o = some v := e4; rw [e4']
        obtain ⟨m, hn, hl⟩ := id I.loc
        have hvis : Vis X.env.scope y := hkx.elim (fun q => .inr (.inl q)) fun q => .inr (.inr q)
        obtain ⟨u, r, lk⟩ := hl j y v hN e5 hvis
        refine ⟨u, r, .inr ⟨relabel_free I.ok.kind hfy hkx, ?_⟩⟩
        rcases lk with ⟨kl, _⟩ | ⟨_, c, ec, ic⟩
        · rcases hkx with q | q <;> rw [kl] at q <;> cases q
        · obtain ⟨c', ec'⟩ := ok.has y (relabel_free I.ok.kind hfy hkx)
          have : c' = c := Option.some.inj ((hcl.look ec').symm.trans ec)
          rw [this] at ec'
          obtain ⟨o, ho, hd⟩ := ic
          exact ⟨c, ec', o, old c o ho, hd⟩
    · obtain ⟨v, o, ho, hd⟩ := I.cell y c (hcl.look e)
      exact ⟨v, o, old c o ho, hd⟩
    · have e : p = (D, { cls := .type "list", data := .seq ([] : List Value).toArray 0 }) := List.mem_singleton.mp hp
      rw [e]
      exact ⟨hacc, hfresh D (Nat.le_refl _), hDC, hDst, fun v z => by cases z⟩
    · show (none :: _).length = (x :: fr).length
      rw [List.length_cons, List.length_cons, lenF]
  have loop : ∀ s₃ : Shared, s₃ = { s₂ with heap := h₁, toks := s₂.toks + ([] : List (Str × Value)).length } →
      codeAny (model X.prog X.w) X.A (.compLoop (.ListComp elt [⟨.Name x px, iter, ifs, 0⟩] scope pos) 0 (.ref it) (.ref D) (compEnvC scope cl C X.env)) (CompOut X pins σ Q (.ref D) C) s₃ := by
    rintro s₃ rfl
    refine codeAny_compLoop_tests (fun n s' => ∃ (i : Nat) (o : Option V) (ys : List V) (its : List Value) (k : Nat) (H' : Hp), Inv (cxComp X scope cl (x :: fr) C s₂ H₂ fp) [(D, { cls := .type "list", data := .seq its.toArray k })] (o :: is.map fun j => (σ[j]?).getD none) H' s' ∧
      tn i s'.heap ∧ (∀ b ∈ fp, H' b = none) ∧ Vals ys its ∧ W i n ys H') ?_ m0 ⟨0, none, [], [], 0, H₂, I0, T.keep _ _ _ st fun b _ o e => old b o e, fun b hb => (hf b hb).1, .nil, w0⟩
    rintro n s' ⟨i, o, ys, its, k, H', I', st', fr', vs, w'⟩
    obtain ⟨hlen, ⟨stop, fin⟩ | ⟨go, hlt, step⟩⟩ := turn i n ys H' w'
    · refine wpAny_mono (T.done (cxComp X scope cl (x :: fr) C s₂ H₂ fp) rfl rfl rfl hYc i _ s' _ H' (fun _ _ => False) I' (hfY fr') st' stop) (fun r s1 ⟨hr, I1⟩ => ?_) fun _ _ z => z.elim
      subst hr
      obtain ⟨pD, nD, _, _, _⟩ := I1.pin _ (List.mem_append_right _ (List.mem_singleton.mpr rfl))
      have IX : Inv X pins σ H' s1 := I.call' I1.os I1.base I1.hok I1.bare fun b hb => ⟨(hf b hb).2.2.2.1, (hf b hb).2.1, (hf b hb).2.2.2.2.1, (hf b hb).2.2.2.2.2⟩
      have fD : FpOk X pins H' D := I.fpOk (by rw [hDe]; exact Nat.le_refl _) nD
      obtain ⟨m, hn, _⟩ := id I1.loc
      have hC' : H' C = none := I1.free
      refine ⟨D, upd H' D (.lst ys), m, rfl, IX.track fD ⟨hlen, its, k, vs, pD⟩, hn, I.fpOk (by rw [hDe]; exact hCle) (by rw [upd_ne (Ne.symm hDC)]; exact hC'), fin D nD⟩
    · refine wpAny_mono (T.item (cxComp X scope cl (x :: fr) C s₂ H₂ fp) rfl rfl rfl hYc i _ s' _ H' (fun _ _ => False) I' (hfY fr') st' go) (fun r s1 ⟨u, hr, h4⟩ => ?_) fun _ _ z => z.elim
      subst hr
      refine wpAny_mono (unlet (Q2 := fun _ s6 => _) h4 fun s2 ⟨v, H5, I5, r5, y5, st5, fr5⟩ => ?_) (fun _ _ q => q) fun _ _ z => z.elim
      have I5' := I5.pinned (hfY fr5) (T.obj _ _ st5)
      refine thn (pg_name (X := cxComp X scope cl (x :: fr) C s₂ H₂ fp) (i := 0) hnd rfl (.inl (lookup_relabel_local hx)) (.inr (lookup_relabel_local hx)) _ s2 _ H5 v u (fun σ' H' => σ' = (some v :: is.map fun j => (σ[j]?).getD none) ∧ H' = H5) I5' r5 ⟨rfl, rfl⟩) fun _ s6 ⟨σ6, H6, I6, e6, e7⟩ => ?_
      subst e6 e7
      refine wpAny_mono (ht C s₂ H₂ fp _ s6 _ H6 _ I6 (step v H6 y5)) (fun ok7 s7 ⟨H7, I7, q7⟩ => ?_) fun _ _ z => z.elim
      have keep : ∀ {σ8 : St} {H8 : Hp} {s8 : Shared}, Inv (cxComp X scope cl (x :: fr) C s₂ H₂ fp) ([(D, { cls := .type "list", data := .seq its.toArray k })] ++ pinsAt fp s2.heap) σ8 H8 s8 → tn (i + 1) s8.heap ∧ ∀ b ∈ fp, H8 b = none := fun {σ8 H8 s8} I8 =>
        ⟨T.keep _ _ _ st5 fun b hb o e => (I8.pin (b, o) (List.mem_append_right _ (List.mem_append_right _ (mem_pinsAt hb e)))).1, fun b hb => by
          obtain ⟨o, e, d⟩ := T.obj _ _ st5 b hb
          exact (I8.pin (b, o) (List.mem_append_right _ (List.mem_append_right _ (mem_pinsAt hb e)))).2.1⟩
      cases ok7 with
      | false =>
        obtain ⟨m', hm', w7⟩ := q7
        exact ⟨m', hm', i + 1, _, ys, its, k, H7, I7.unpinned, (keep I7).1, (keep I7).2, vs, w7⟩
      | true =>
        refine wpAny_mono (he C s₂ H₂ fp _ s7 _ H7 _ I7 q7) (fun yv s8 ⟨y, H8, I8, r8, m', hm', w8⟩ => ?_) fun _ _ z => z.elim
        obtain ⟨pD, nD, neD, nfD, ncD⟩ := I8.pin (D, { cls := .type "list", data := .seq its.toArray k }) (List.mem_append_right _ (List.mem_append_left _ (List.mem_singleton.mpr rfl)))
        have hl := vs.length
        refine append_at (hsz := by rw [List.size_toArray, ← hl]; exact hlen) pD fun h9 sb9 hD9 => ?_
        obtain ⟨st8, fr8⟩ := keep I8
        have I8' : Inv (cxComp X scope cl (x :: fr) C s₂ H₂ fp) [] (some v :: is.map fun j => (σ[j]?).getD none) H8 s8 := I8.pins_of fun p hp => nomatch hp
        have I9 : Inv (cxComp X scope cl (x :: fr) C s₂ H₂ fp) [] (some v :: is.map fun j => (σ[j]?).getD none) H8 { s8 with heap := h9 } :=
          I8'.turned (t' := s8.toks) (fun b o hb e => (sb9.2 b hb).trans e) nD neD (.inr (by rw [← hDe]; exact Nat.le_refl _)) (fun y' c e z => by
            obtain ⟨v', o', ho', hd'⟩ := I8'.cell y' c e
            rw [z, pD] at ho'; cases ho'; cases hd') (fun p hp => nomatch hp)
        refine ⟨m', hm', i + 1, _, ys ++ [y], its ++ [yv], k + 1, H8, I9.pins_of fun p hp => ?_, T.keep _ _ _ st8 fun b hb o e => (sb9.2 b (hDfp b hb)).trans e, fr8, vs.append (.cons r8 .nil), w8⟩
        rw [List.mem_singleton.mp hp]
        refine ⟨?_, nD, neD, nfD, fun v z => by cases z⟩
        rw [← List.push_toArray]
        exact hD9
  exact codeAny_compStart_list (loop _ rfl) (T.self _ 0 _ _ _ (T.keep _ _ _ st fun b _ o e => old b o e) (loop _ rfl))
theorem pe_comp (hc : X.calm = true) (hclos : closureFor scope X.env = pure cl) (hcl : ClOk X.env.cells cl) (hfree : (scope.names.all fun p => p.2 != .free || (cl.lookup p.1).isSome) = true) (hfr : FrOk X scope fr is) (hnd : (x :: fr).Nodup)
    (hcell : ∀ y ∈ scope.names, y.2 ≠ .cell) (hkind : scope.kind = .function) (hnames : ∀ y ∈ scope.names, y.2 = .local → scope.names.lookup y.1 = some .local) (hx : scope.names.lookup x = some .local)
    (hi : PI X (.Name x px) iter wi) (ht : ∀ C s₂ H₂ fp, PIfs (cxComp X scope cl (x :: fr) C s₂ H₂ fp) ifs tt) (he : ∀ C s₂ H₂ fp, PE (cxComp X scope cl (x :: fr) C s₂ H₂ fp) elt te) (hs : ∀ x, foldedSetIterable iter X.env x = pure x := by intro _; rfl) :
    PE X (.ListComp elt [⟨.Name x px, iter, ifs, 0⟩] scope pos) (tComp is wi tt te) := by
  intro pins s σ H Q I h
  rw [eval_ListComp]
  refine wpAny_comprehension_free (use := none) rfl hs hclos hkind hnames (thn (hi pins s σ H _ I h) fun v s1 h1 => thn h1 fun itv s2 h2 => ?_)
  obtain ⟨it, fp, tn, J, H2, e, I2, T, st2, f2, R⟩ := h2
  subst e
  refine thn (comp_core hc hcell hkind hx hcl hfree hfr hnd ht he I2 T st2 f2 R) fun acc s3 h3 => thn h3 fun cenv s4 h4 => codeAny_mono h4 fun r s' q => ?_
  cases r with
  | error e => exact q.elim
  | ok f =>
    obtain ⟨D, H', m, rfl, I', hn, fC, q⟩ := q
    obtain ⟨f0, f1, _, f3, f4, f5⟩ := fC
    exact ⟨m, hn, fun h' sb => ⟨.ref D, H', I'.turned (t' := s'.toks) (fun b o hb e => (sb.2 b hb).trans e) f0 f1 f3 f4 f5, rfl, q⟩⟩
theorem ps_setcomp {i : Nat} {y : Str} {py spos : Pos} (hN : X.N.Nodup) (hiy : X.N[i]? = some y) (hy : Loc X.env.scope y) (hsw : swapsWith (.ListComp elt [⟨.Name x px, iter, ifs, 0⟩] scope pos) (some (.Name y py)) spos.line X.env = pure true)
    (hc : X.calm = true) (hclos : closureFor scope X.env = pure cl) (hcl : ClOk X.env.cells cl) (hfree : (scope.names.all fun p => p.2 != .free || (cl.lookup p.1).isSome) = true) (hfr : FrOk X scope fr is) (hnd : (x :: fr).Nodup)
    (hcell : ∀ y ∈ scope.names, y.2 ≠ .cell) (hkind : scope.kind = .function) (hnames : ∀ y ∈ scope.names, y.2 = .local → scope.names.lookup y.1 = some .local) (hx : scope.names.lookup x = some .local)
    (hi : PI X (.Name x px) iter wi) (ht : ∀ C s₂ H₂ fp, PIfs (cxComp X scope cl (x :: fr) C s₂ H₂ fp) ifs tt) (he : ∀ C s₂ H₂ fp, PE (cxComp X scope cl (x :: fr) C s₂ H₂ fp) elt te) (hs : ∀ x, foldedSetIterable iter X.env x = pure x := by intro _; rfl)
    (hf : X.fn y = true ∨ X.env.scope.names.lookup y = some .local := by first | exact .inl rfl | exact .inr rfl | assumption) :
    PS X (.Assign [.Name y py] (.ListComp elt [⟨.Name x px, iter, ifs, 0⟩] scope pos) spos) (tAsg (tComp is wi tt te) (gName i)) := by
  intro pins s σ H D0 I h
  rw [exec_Assign_Name_used _ _ _ _ hsw]
  refine wpAny_bind (wpAny_standAt (wpAny_bind ?_))
  show wpAny _ X.A (do let _ ← comprehension (.ListComp elt [⟨.Name x px, iter, ifs, 0⟩] scope pos) scope X.env _ (newList []) false (eval iter X.env) (some (assign (.Name y py) X.env))) _ _ s
  refine wpAny_bind (wpAny_mono (wpAny_comprehension_free (use := some (assign (.Name y py) X.env)) (Q := fun _ s' => SP X pins D0 .next s') rfl hs hclos hkind hnames
    (thn (hi pins s σ H _ I h) fun v s1 h1 => thn h1 fun itv s2 h2 => ?_)) (fun _ s' hq => wpAny_pure (wpAny_pure hq)) fun _ _ e => e)
  obtain ⟨it, fp, tn, J, H2, e, I2, T, st2, f2, R⟩ := h2
  subst e
  refine thn (comp_core hc hcell hkind hx hcl hfree hfr hnd ht he I2 T st2 f2 R) fun acc s3 h3 => thn h3 fun cenv s4 h4 => codeAny_mono h4 fun r s' q => ?_
  cases r with
  | error e => exact q.elim
  | ok f =>
    obtain ⟨D, H', m, rfl, I', hn, fC, q⟩ := q
    obtain ⟨f0, f1, _, f3, f4, f5⟩ := fC
    show wpAny _ _ (assign (.Name y py) X.env (.ref D)) _ _ _
    refine wpAny_assign_Name (store_ok2 I' hN hiy hy (v := .ref D) rfl (fun s'' I'' ⟨a, sb, ha⟩ => ?_) hf)
    have hCa : cenv.locals ≠ a := by
      rcases ha with rfl | ha
      · exact f1
      · exact Ne.symm (f4 y a ha)
    refine ⟨m, hn.sameBut sb hCa, fun h' sb' => ⟨_, H', I''.turned (t' := s''.toks) (fun b o hb e => (sb'.2 b hb).trans e) f0 f1 f3 f4 f5, q⟩⟩
end
section
variable {K : PySem.W.Frag} {σ : St} {H : Hp} {Q : VK} {is : List Nat} {tt : TT} {te : TE}
def kCompL (K : PySem.W.Frag) (is : List Nat) (tt : TT) (te : TE) (σ : St) (Q : VK) (x : V) (H : Hp) : Prop := ∃ a, x = .ref a ∧ (∃ xs, SqL K H a xs) ∧ kComp is tt te σ Q (Itl K a) H
def NxC (n : Nat) (Pv : Nat → List V → Hp → Prop) (i : Nat) (ys : List V) (H : Hp) : Prop := ∃ m', m' < n - i ∧ m' = n - (i + 1) ∧ i + 1 ≤ n ∧ Pv (i + 1) ys H
theorem nxC {n : Nat} {Pv : Nat → List V → Hp → Prop} {i : Nat} {ys : List V} {H : Hp} (h : i < n) (p : Pv (i + 1) ys H) : NxC n Pv i ys H := ⟨_, by omega, rfl, h, p⟩
theorem r_noIf {s : St} {R : Bool → Hp → Prop} (h : R true H) : tNoIf s H R := h
def kCompR (is : List Nat) (tt : TT) (te : TE) (σ : St) (Q : VK) (vs : List V) (H : Hp) : Prop := ∃ j : Int, vs = [.int j] ∧ -(2 ^ 62) ≤ j ∧ j < 2 ^ 62 ∧ kComp is tt te σ Q (Itr 0 j.toNat) H
theorem r_compR {ta : TA} (h : ta σ H (kCompR is tt te σ Q)) : tComp is (iRng1 ta) tt te σ H Q := h
theorem r_kCompR {j : Int} (h1 : -(2 ^ 62) ≤ j) (h2 : j < 2 ^ 62) (hz : j.toNat ≤ sizeLine) (Pv : Nat → List V → Hp → Prop) (h0 : Pv 0 [] H) (hl : ∀ i ys H, i ≤ j.toNat → Pv i ys H → ys.length ≤ i)
    (hs : ∀ i ys H, i < j.toNat → Pv i ys H → tt (some (.int (0 + i)) :: is.map fun j => (σ[j]?).getD none) H fun ok H2 => if ok = true then te (some (.int (0 + i)) :: is.map fun j => (σ[j]?).getD none) H2 fun y H3 => NxC j.toNat Pv i (ys ++ [y]) H3 else NxC j.toNat Pv i ys H2)
    (hd : ∀ ys H, Pv j.toNat ys H → ∀ p H', Same H H' → H' p = some (.lst ys) → Q (.ref p) H') : kCompR is tt te σ Q [.int j] H := by
  refine ⟨j, rfl, h1, h2, fun i m ys H => m = j.toNat - i ∧ i ≤ j.toNat ∧ Pv i ys H, ⟨j.toNat, by simp, Nat.zero_le _, h0⟩, ?_⟩
  rintro i m ys H ⟨rfl, hi, p⟩
  have ly := hl i ys H hi p
  refine ⟨by omega, ?_⟩
  by_cases hlt : i < j.toNat
  · refine .inr ⟨hlt, by omega, fun x H' y => ?_⟩
    obtain ⟨e, y⟩ := y
    subst e y
    exact hs i ys _ hlt p
  · have e : i = j.toNat := by omega
    subst e
    exact .inl ⟨Nat.le_refl _, fun p' hp => hd ys H p p' _ (same_new hp _) upd_same⟩
end
section
variable {K : PySem.W.Frag} {σ : St} {H : Hp} {Q : VK}
theorem r_cat {l b : Addr} {xs zs : List V} (h1 : H l = some (.lst xs)) (h2 : H b = some (.lst zs)) (hz : xs.length + zs.length ≤ sizeLine) (q : ∀ p H', Same H H' → H' p = some (.lst (xs ++ zs)) → Q (.ref p) H') : rCat (.ref l) (.ref b) H Q :=
  ⟨l, b, xs, zs, rfl, rfl, h1, h2, hz, fun p hp => q p _ (same_new hp _) upd_same⟩
end
end L2
set_option Elab.async false
set_option linter.all false
set_option maxRecDepth 100000
set_option maxHeartbeats 4000000
namespace L2
open PySem PySem.Spec PyProof.Rows
section
variable {X : Cx}
def rSorted (K : PySem.W.Frag) : List V → Hp → VK → Prop := fun xs H Q => ∃ (p : Addr) (ns : List Int), xs = [.ref p] ∧ SqL K H p (ns.map V.int) ∧ ns.length < 64 ∧
  ∀ (ms : List Int) (q : Addr) (H' : Hp), ms.Perm ns → ms.Pairwise (· ≤ ·) → Same H H' → H' q = some (.lst (ms.map V.int)) → Q (.ref q) H'
def rInsert : V → List V → Hp → VK → Prop := fun x vs H Q => ∃ l xs i y, x = .ref l ∧ vs = [.int i, y] ∧ H l = some (.lst xs) ∧ 0 ≤ i ∧ i.toNat ≤ xs.length ∧ xs.length < sizeLine ∧ Q .non (upd H l (.lst (xs.take i.toNat ++ y :: xs.drop i.toNat)))
def rNeL (K : PySem.W.Frag) : R2 := fun x y H Q => ∃ p q xs ys, x = .ref p ∧ y = .ref q ∧ SqL K H p xs ∧ SqL K H q ys ∧ xs.length = ys.length ∧ xs.all flatV = true ∧ ys.all flatV = true ∧ Q (.bl (!(List.range xs.length).all fun j => eqV (xs.getD j .non) (ys.getD j .non))) H
end
end L2
set_option Elab.async false
set_option linter.all false
set_option maxRecDepth 100000
set_option maxHeartbeats 400000
namespace L2
open PySem PySem.Spec PyProof.Rows
abbrev VEB : List Value := [.type "ValueError", .type "Exception", .type "BaseException", .type "object"]
structure Exc (K : PySem.W.Frag) (C : Addr) : Prop where
  ex : PySem.W.excIn K C VEB "ValueError.__new__" = true
  h1 : PySem.W.findIn K (.ref C) "__getattribute__" = some (some (.builtin "BaseException.__getattribute__"))
  h2 : PySem.W.findIn K (.ref C) "__getattr__" = some none
  hb : PySem.W.mroIn K C (.type "BaseException") = some true
  hd : PySem.W.hasDictIn K C = true
  ha : PySem.W.findIn K (.ref C) "__class__" = some (some (.builtin "object.__class__"))
  hn : PySem.W.specialIn K (.builtin "object.__class__") "__get__" = some (some (.builtin "getset_descriptor.__get__"))
  ht : PySem.W.takesIn K (.builtin "object.__class__") = some true
  hm : PySem.W.mroIn K C (.type "object") = some true
def ExAt (x C : Addr) (h : Heap) : Prop := ∃ o, h.get? x = some o ∧ o.cls = .ref C ∧ ∃ vs, o.data = .fields vs
theorem ExAt.keep {x C : Addr} {h h' : Heap} (e : ExAt x C h) (k : ∀ o, h.get? x = some o → h'.get? x = some o) : ExAt x C h' := let ⟨o, a, b⟩ := e; ⟨o, k o a, b⟩
section
open PySem.W PySem.Calls Builtin Builtin.ObjectAttr Builtin.Getset_descriptor
variable {K : Frag} {x C : Addr} {M : Model} {h : Heap}
theorem ExAt.ty (e : ExAt x C h) : Looks M h (typeOf (.ref x)) (.ref C) := by
  obtain ⟨o, h1, h2, _⟩ := e
  rw [← h2]
  exact (Looks.ld h1).andThen .now
theorem ex_find {a g : Value} {name : Str} (X : K.In h) (h1 : findIn K (.ref C) name = some (some a)) (h2 : specialIn K a "__get__" = some (some g)) (h3 : takesIn K a = some true) : Looks M h (Builtin.ObjectAttr.find (.ref x) (.ref C) name) (.bind g a) :=
  (looks_findIn X h1).andThen ((looks_specialIn X h2).andThen ((show Looks M h (Builtin.ObjectAttr.dataDescriptor? (some a) (some g)) (some (g, a)) from (looks_takesIn X h3).andThen .now).andThen (Looks.tag .now)))
variable {prog : Program} {w : World} {A : Around} {E : Value → Shared → Prop} {s : Shared}
end
end L2
set_option Elab.async false
set_option linter.all false
set_option maxRecDepth 100000
set_option maxHeartbeats 400000
namespace L2
open PySem PySem.Spec PyProof.Rows
def CXE (P : Program) (w : World) : CXT := fun outer H s E e s' => ∃ (x C : Addr) (a0 : Value) (H' : Hp) (B : Heap), e = .ref x ∧ s'.os = s.os ∧ AllBare s'.gens ∧ Heap.FlyingW B outer x (.ref C) a0 s'.heap ∧
  (∀ h', B.StaysIn h' → s'.heap.UpToSlots h' → Un (frs outer) [] H H' s.heap h' ∧ HOk P w H' h') ∧ s.heap.get? x = none ∧ H' x = none ∧ E (.ref C) none H'
theorem ObjOk.is {P : Program} {w : World} {H : Hp} {h : Heap} {a : Addr} {o : HO} (x : ObjOk P w H h a o) : ∃ ob, h.get? a = some ob := by
  cases o with
  | lst xs => obtain ⟨_, _, _, _, e⟩ := x; exact ⟨_, e⟩
  | tup xs => obtain ⟨_, _, _, ob, e, _⟩ := x; exact ⟨_, e⟩
  | dK kvs => obtain ⟨_, _, _, _, ob, _, _, e, _⟩ := x; exact ⟨_, e⟩
  | dT kvs => obtain ⟨_, _, _, _, ob, _, _, e, _⟩ := x; exact ⟨_, e⟩
  | set S n => first | (obtain ⟨ob, e, _⟩ := x; exact ⟨_, e⟩) | (obtain ⟨ob, es, e, _⟩ := x; exact ⟨_, e⟩) | (obtain ⟨ob, es, ep, e, _⟩ := x; exact ⟨_, e⟩) | (obtain ⟨ob, es, ep, z, e, _⟩ := x; exact ⟨_, e⟩)
  | ins C dx fs => obtain ⟨_, _, _, e, _⟩ := x; exact ⟨_, e⟩
  | own y => exact x
  | xd fs => obtain ⟨_, ⟨ob, _, _, e, _⟩, _⟩ := x; exact ⟨_, e⟩
  | met f y => exact ⟨_, x⟩
  | rng lo hi => obtain ⟨_, _, _, e⟩ := x; exact ⟨_, e⟩
  | frz o u => exact ⟨_, x.1⟩
  | tbl ps => exact ⟨_, x⟩
  | ext φ => exact x.2.1
section
variable {P : Program} {w : World} {K : PySem.W.Frag} {mg : Str → Option Value} {base : Heap} {N : List Str} {qual : Str} {scope : Scope} {f : Addr} {cd : Value} {A : Around} {outer : List Env} {s : Shared} {H : Hp} {E : XK}
end
theorem exc_obj {K : PySem.W.Frag} {h : Heap} {C : Addr} (X : K.In h) (c : Exc K C) : ∃ tl N nm q bs hdct sn sub ab col dd k0 k1 k2 k3 k5 mN,
    h.get? C = some (excClassObj nm q C N bs tl hdct sn sub ab col dd k0 k1 k2 k3 k5 "ValueError.__new__") ∧ h.Ns N mN ∧ mN "__init__" = none ∧ OwnTail h VEB tl := by
  have q := c.ex
  unfold PySem.W.excIn at q
  split at q
  · rename_i dd cd sl ho
    split at q
    · rename_i C' bm k0 k1 k2 k3 n k5 hm hs
      simp only [Bool.and_eq_true, beq_iff_eq, Bool.not_eq_true'] at q
      obtain ⟨⟨⟨⟨⟨z1, z2⟩, hdel⟩, ht⟩, hok⟩, hni⟩ := q
      subst z1 z2
      obtain ⟨nm, bs, mro, ns, qn, hdc, sn, sub, ab, col, del⟩ := cd
      dsimp only at hm hdel hok hni
      subst hm hdel
      have hsl : sl = #[k0, k1, k2, k3, some (.builtin "ValueError.__new__"), k5] := by
        cases sl with
        | mk l => simp only at hs; rw [hs]
      subst hsl
      refine ⟨bm, ns, nm, qn, bs, hdc, sn, sub, ab, col, dd, k0, k1, k2, k3, k5, h.nsMap ns, X _ _ ho, ?_, ?_, PySem.W.tail_of_in X ht⟩
      · exact .of_isNs (PySem.W.isNs_of_in X hok)
      · exact PySem.W.nsMap_none_of_in X hok hni
    · cases q
  · cases q
def Takes (X : Cx) (E : XK) : Prop := ∀ (pins : List (Addr × Obj)) (σ : St) (H : Hp) (s : Shared) (h' : Heap) (x C : Addr) (args : List Value), Inv X pins σ H s → Heap.MadeExcOf s.heap h' x (.ref C) args → E (.ref C) none H → X.xe (.ref x) { s with heap := h' }
def tRaise (C : Addr) (E : XK) (t : TA) : TS := fun _ σ H => t σ H fun vs H1 => vs.length ≤ sizeLine ∧ E (.ref C) none H1
def HasX (P : Program) (w : World) (K : PySem.W.Frag) (mg : Str → Option Value) (base : Heap) (x : Str) (k : Nat) (ps : List Str) (sp : Sp) : Prop :=
  ∃ (f : Addr) (fd : FuncData), FnOk P w K mg base (CXE P w) k f fd ps sp ∧ mg x = some (.ref f) ∧ PySem.W.keepIn K (.ref f) = true ∧ Binds K fd ps []
def XP (X : Cx) (pins : List (Addr × Obj)) (σ : St) (E : XK) (e : Value) (s' : Shared) : Prop := ∃ H1 s1, Inv X pins σ H1 s1 ∧ CXE X.prog X.w X.stack H1 s1 E e s'
def Cx.inExc (X : Cx) (x : Addr) : Cx := { X with A := X.A.mark (some (.ref x)), calm := false, xe := fun _ _ => False }
section
variable {X : Cx} {pins : List (Addr × Obj)} {σ : St} {H : Hp} {s : Shared}
theorem Cx.Ok.inExc (ok : X.Ok) (x : Addr) : (X.inExc x).Ok :=
  ⟨ok.mod, ok.kind, ok.glob, ok.blt, ok.above, ok.inj, ok.has, ok.cab, (fun z => nomatch z), ok.frames, ok.stk, ok.exf, ok.bs, ok.bsz, ok.noex, ok.exfs, ok.funs, ok.frf⟩
theorem Inv.inExc (I : Inv X pins σ H s) (x : Addr) : Inv (X.inExc x) pins σ H s := ⟨I.ok.inExc x, I.os, I.bare, I.base, I.loc, I.cell, I.free, I.freeC, I.pin, I.hok, I.len⟩
end
def tTryX (K : PySem.W.Frag) (sp : Sp) (C' : Addr) (i : Nat) (t : TA) (ts : TS) : TS := fun D σ H => t σ H fun vs H1 => sp (vs ++ []) H1 (fun _ H2 => D.nx σ H2) (fun cls _ H2 => ∃ C, cls = .ref C ∧ Exc K C ∧ PySem.W.exmOne K (.ref C) (.ref C') = some true ∧
  ∀ x, H2 x = none → ts { nx := fun _ _ => False, rt := D.rt } (σ.set i (some (.ref x))) (upd H2 x (.ext (ExAt x C))))
end L2
namespace L2
open PySem PySem.Spec PyProof.Rows
section
variable {X : Cx} {H : Hp} {Q : VK} {K : PySem.W.Frag}
def rIsiX (K : PySem.W.Frag) : List V → Hp → VK → Prop := fun xs H Q => ∃ x C c b, xs = [.ref x, c] ∧ H x = some (.ext (ExAt x C)) ∧ Exc K C ∧ ((∃ T, c = .ty T) ∨ ∃ D, c = .ref D) ∧ PySem.W.kitOne K (.ref C) (clsV c) = some b ∧ Q (.bl b) H
def rIsiT (K : PySem.W.Frag) : List V → Hp → VK → Prop := fun xs H Q => ∃ (x C p : Addr) (Ds : List Addr) (b : Bool), xs = [.ref x, .ref p] ∧ H x = some (.ext (ExAt x C)) ∧ Exc K C ∧ H p = some (.tup (Ds.map V.ref)) ∧ PySem.W.kitAny K (.ref C) (Ds.map Value.ref) = some b ∧ Q (.bl b) H
theorem FnOk.calm {P : Program} {w : World} {K : PySem.W.Frag} {mg : Str → Option Value} {base : Heap} {k : Nat} {f : Addr} {fd : FuncData} {ps : List Str} {sp : Sp} (F : FnOk P w K mg base (CXE P w) k f fd ps sp) : FnOk P w K mg base CX0 k f fd ps (fun vs H Q _ => sp vs H Q E0) :=
  ⟨fun vs H Q _ h => F.len vs H Q E0 h, fun A outer s H args us vs Q _ hr he hb hv hs => codeAny_mono (F.run A outer s H args us vs Q E0 hr he hb hv hs) fun r s' hq => by
    cases r with
    | ok fl => cases fl <;> exact hq
    | error e =>
      obtain ⟨_, _, _, _, _, _, _, _, _, _, _, _, z⟩ := hq
      exact z.elim⟩
end
end L2
set_option Elab.async false
set_option linter.all false
set_option maxRecDepth 100000
set_option maxHeartbeats 400000
namespace L2
open PySem PySem.Spec PyProof.Rows
section
variable {X : Cx} {H : Hp} {Q : VK} {K : PySem.W.Frag} {σ : St} {pos p1 p2 : Pos} {n1 n2 : Nat} {a b : Int}
def dctO (p : Addr) : HO := .ext (PySem.W.KitAt p "dict")
def tDct : TE := fun _ H Q => ∀ p H', Same H H' → H' p = some (dctO p) → Q (.ref p) H'
inductive Odd (H : Hp) : V → Prop where
  | non : Odd H .non
  | bl (b : Bool) : Odd H (.bl b)
  | str (x : Str) : Odd H (.str x)
  | lst {p : Addr} {xs : List V} (e : H p = some (.lst xs)) : Odd H (.ref p)
  | tup {p : Addr} {xs : List V} (e : H p = some (.tup xs)) : Odd H (.ref p)
  | dct {p : Addr} (e : H p = some (dctO p)) : Odd H (.ref p)
theorem Odd.same {H H' : Hp} {v : V} (h : Odd H v) (g : Same H H') : Odd H' v := by
  cases h with
  | non => exact .non
  | bl b => exact .bl b
  | str x => exact .str x
  | lst e => exact .lst (g _ _ e)
  | tup e => exact .tup (g _ _ e)
  | dct e => exact .dct (g _ _ e)
def rIsiO (K : PySem.W.Frag) : List V → Hp → VK → Prop := fun xs H Q => rIsi K xs H Q ∨ ∃ p T b, xs = [.ref p, .ty T] ∧ H p = some (dctO p) ∧ PySem.W.kitOne K (.type "dict") (.type T) = some b ∧ Q (.bl b) H
theorem r_isiO_bl {i : Bool} {T : String} {b : Bool} (e : PySem.W.kitOne K (.type "bool") (.type T) = some b) (q : Q (.bl b) H) : rIsiO K [.bl i, .ty T] H Q := .inl (r_isi (.bl i) ⟨_, .inl rfl⟩ e q)
theorem r_isiO_str {x : Str} {T : String} {b : Bool} (e : PySem.W.kitOne K (.type "str") (.type T) = some b) (q : Q (.bl b) H) : rIsiO K [.str x, .ty T] H Q := .inl (r_isi (.str x) ⟨_, .inl rfl⟩ e q)
theorem r_isiO_non {T : String} {b : Bool} (e : PySem.W.kitOne K (.type "NoneType") (.type T) = some b) (q : Q (.bl b) H) : rIsiO K [.non, .ty T] H Q := .inl (r_isi .non ⟨_, .inl rfl⟩ e q)
theorem r_isiO_lst {p : Addr} {xs : List V} {T : String} {b : Bool} (h : H p = some (.lst xs)) (e : PySem.W.kitOne K (.type "list") (.type T) = some b) (q : Q (.bl b) H) : rIsiO K [.ref p, .ty T] H Q := .inl (r_isi (.lst h) ⟨_, .inl rfl⟩ e q)
theorem r_isiO_tup {p : Addr} {xs : List V} {T : String} {b : Bool} (h : H p = some (.tup xs)) (e : PySem.W.kitOne K (.type "tuple") (.type T) = some b) (q : Q (.bl b) H) : rIsiO K [.ref p, .ty T] H Q := .inl (r_isi (.tup h) ⟨_, .inl rfl⟩ e q)
theorem r_isiO_dct {p : Addr} {T : String} {b : Bool} (h : H p = some (dctO p)) (e : PySem.W.kitOne K (.type "dict") (.type T) = some b) (q : Q (.bl b) H) : rIsiO K [.ref p, .ty T] H Q := .inr ⟨p, T, b, rfl, h, e, q⟩
theorem Odd.int {v : V} (h : Odd H v) (q1 : Q (.bl true) H) (q0 : Q (.bl false) H) : rIsiO K [v, .ty "int"] H Q := by
  cases h with
  | non => exact r_isiO_non (kit_NoneType_int K) q0
  | bl b => exact r_isiO_bl (kit_bool_int K) q1
  | str x => exact r_isiO_str (kit_str_int K) q0
  | lst e => exact r_isiO_lst e (kit_list_int K) q0
  | tup e => exact r_isiO_tup e (kit_tuple_int K) q0
  | dct e => exact r_isiO_dct e (kit_dict_int K) q0
def rStrI : List V → Hp → VK → Prop := fun xs H Q => ∃ i : Int, xs = [.int i] ∧ 0 ≤ i ∧ i < 100000 ∧ ∀ x, Q (.str x) H
theorem bo_ValueError : bootBuiltins "ValueError" = some (.type "ValueError") := by decide +kernel
def spc (sp : Sp) : Sp := fun vs H Q _ => sp vs H Q E0
def Nm (K : PySem.W.Frag) (x : Str) (C : Addr) : Prop := PySem.W.nsIn K mainGlobals x = some (some (.ref C))
theorem Nm.eq {x : Str} {C C' : Addr} (h : Nm K x C) (h' : Nm K x C') : C = C' := by
  have := h.symm.trans h'
  cases this; rfl
theorem se_Call {f : Expr} {as : List Expr} {ks : List Keyword} {p : Pos} {es : List Expr} {env : Env} : starEach (.Call f as ks p :: es) env = (false, eval (.Call f as ks p) env) :: starEach es env := rfl
def isDct1 : Expr → Bool
  | .Dict [some (.Constant (.int _) _ _)] [.Constant (.int _) _ _] _ => true
  | _ => false
theorem r_bmL {T : String} {r : V → List V → Hp → VK → Prop} {to : TE} {t : TA} (h : to σ H fun x H1 => tyV K T x H1 ∧ t σ H1 fun xs H2 => r x xs H2 Q) : tBM K T r to t σ H Q := h
theorem r_tyLL {p : Addr} {xs : List V} {R : Prop} (h : SqL K H p xs) (q : R) : tyV K "list" (.ref p) H ∧ R := ⟨.inl ⟨rfl, _, h⟩, q⟩
theorem r_append {l : Addr} {xs : List V} {y : V} (h : H l = some (.lst xs)) (h2 : xs.length < sizeLine) (q : Q .non (upd H l (.lst (xs ++ [y])))) : rAppend (.ref l) [y] H Q := ⟨l, xs, y, rfl, rfl, h, h2, q⟩
def SB (r : Addr) (H F : Hp) : Prop := ∀ b o, b ≠ r → H b = some o → F b = some o
theorem SB.then {r : Addr} {H F G : Hp} (h : SB r H F) (g : Same F G) : SB r H G := fun b u n e => g _ _ (h b u n e)
theorem SB.refl {r : Addr} {H : Hp} : SB r H H := fun _ _ _ e => e
theorem SB.same {r : Addr} {H F : Hp} (h : SB r H F) (n : H r = none) : Same H F := fun b o e => h b o (ne_of_none e n) e
end
end L2
set_option Elab.async false
set_option linter.all false
set_option maxRecDepth 100000
set_option maxHeartbeats 400000
namespace L2
open PySem PySem.Spec PyProof.Rows
section
variable {X : Cx} {H : Hp} {Q : VK} {K : PySem.W.Frag}
def rAddS : R2 := fun x y H Q => ∃ i j : Str, x = .str i ∧ y = .str j ∧ i.length + j.length ≤ sizeLine ∧ Q (.str (i ++ j)) H
def rLenT : List V → Hp → VK → Prop := fun xs H Q => ∃ z : Str, xs = [.str z] ∧ z.length ≤ sizeLine ∧ Q (.int z.length) H
def rInS : R2 := fun x y H Q => ∃ i j : Str, x = .str i ∧ y = .str j ∧ Q (.bl (!(Builtin.Str.occurrences j i 0 j.length 1).isEmpty)) H
def rSlS : V → Option Int → Option Int → Hp → VK → Prop := fun x lo hi H Q => ∃ z : Str, x = .str z ∧ z.length ≤ sizeLine ∧ Q (.str (Txt.slice z lo hi)) H
end
end L2
set_option Elab.async false
set_option linter.all false
set_option maxRecDepth 100000
set_option maxHeartbeats 400000
namespace L2
open PySem PySem.Spec PyProof.Rows
abbrev Lt (x : Str) : List Nat := x.cps.toList
def T (l : List Nat) : Str := ⟨l.toArray⟩
theorem Lt_T (l : List Nat) : Lt (T l) = l := rfl
theorem T_Lt (x : Str) : T (Lt x) = x := by cases x; simp [T, Lt]
theorem Lt_inj {x y : Str} (h : Lt x = Lt y) : x = y := by rw [← T_Lt x, ← T_Lt y, h]
def cl (n d : Nat) : Option Int → Nat
  | none => d
  | some i => (max 0 (min (if i < 0 then i + n else i) (n : Int))).toNat
section
variable {X : Cx} {H : Hp} {Q : VK} {K : PySem.W.Frag}
def rMulT : R2 := fun x y H Q => ∃ (z : Str) (n : Int), x = .str z ∧ y = .int n ∧ n < 16777216 ∧ -16777216 < n ∧ (Lt z).length * n.toNat ≤ 16777216 ∧ Q (.str (T (List.replicate n.toNat (Lt z)).flatten)) H
theorem foldl_app : ∀ (xs : List (Array Nat)) (a : Array Nat), (xs.foldl (fun x1 x2 => x1 ++ x2) a).toList = a.toList ++ (xs.map Array.toList).flatten
  | [], a => by simp
  | x :: xs, a => by rw [List.foldl_cons, foldl_app xs]; simp
theorem mul_T (z : Str) (n : Int) : Txt.mul z n = T (List.replicate n.toNat (Lt z)).flatten := by
  unfold Txt.mul
  split
  · rw [show n.toNat = 0 by omega]; rfl
  · split
    · rename_i h1 h2
      rw [Bool.or_eq_true] at h2
      rcases h2 with h | h
      · have : n = 1 := by simpa using h
        subst this
        show z = T ([Lt z].flatten)
        simp [T_Lt]
      · have e : (Lt z).length = 0 := (by simpa using h : z.length = 0)
        have e' : Lt z = [] := List.eq_nil_of_length_eq_zero e
        refine Lt_inj ?_
        rw [Lt_T, e']
        simp
    · refine Lt_inj ?_
      show (List.foldl (fun x1 x2 => x1 ++ x2) #[] (List.replicate n.toNat z.cps)).toList = _
      rw [foldl_app, List.map_replicate, Lt_T]
      simp
theorem op_mulT : OpR X (binaryOp .Mult) rMulT := by
  intro pins s σ H x y v u Q I rx ry h
  obtain ⟨z, n, rfl, rfl, h1, h2, h3, q⟩ := h
  obtain ⟨t, rfl⟩ := rx
  obtain ⟨t', rfl⟩ := ry
  refine SB.mul ⟨?_, fun h4 _ => ?_, fun _ _ => ?_⟩ fun t' k => ⟨.str _, H, I.tok _, ⟨t', rfl⟩, by rw [mul_T]; exact q⟩
  · rw [decide_eq_false (by omega), decide_eq_false (by omega)]; rfl
  · have e : ((Lt z).length : Int) * n ≤ 16777216 := by
      have := Int.ofNat_le.mpr h3
      rw [Int.natCast_mul, Int.toNat_of_nonneg (by omega)] at this; exact this
    intro h5
    have h6 := Int.mul_le_of_le_ediv (c := n) (by omega) (Int.le_refl ((2 ^ 63 - 1) / n))
    have h7 : ((2 : Int) ^ 63 - 1) / n + 1 ≤ (Lt z).length := h5
    have h8 := Int.mul_le_mul_of_nonneg_right h7 (show 0 ≤ n by omega)
    have h9 := Int.lt_ediv_add_one_mul_self ((2 : Int) ^ 63 - 1) (show 0 < n by omega)
    omega
  · unfold Builtin.Str.tooLong
    exact decide_eq_false (by show ¬ (Lt z).length * n.toNat > 16777216; omega)
theorem rT_mul1 {c : Nat} {n : Int} (h1 : n < 16777216) (h2 : -16777216 < n) (q : Q (.str (T (List.replicate n.toNat c))) H) : rMulT (.str (T [c])) (.int n) H Q :=
  ⟨T [c], n, rfl, rfl, h1, h2, by rw [Lt_T, List.length_singleton, Nat.one_mul]; omega, by rw [Lt_T, List.flatten_replicate_singleton]; exact q⟩
theorem r_ixAll {p : Addr} {xs : List V} {i : Int} (h : SqL K H p xs) (h0 : 0 ≤ i) (h1 : i < xs.length) (q : ∀ x, xs[i.toNat]? = some x → Q x H) : rIxL K (.ref p) (.int i) H Q := by
  have h2 : i.toNat < xs.length := by omega
  have e : atI xs ((i.toNat : Nat) : Int) = some xs[i.toNat] := atI_nat (List.getElem?_eq_getElem h2)
  rw [show ((i.toNat : Nat) : Int) = i by omega] at e
  exact r_ixL h e (q _ (List.getElem?_eq_getElem h2))
def rFindT : V → List V → Hp → VK → Prop := fun x xs H Q => ∃ z y : Str, x = .str z ∧ xs = [.str y] ∧ Q (.int (Txt.find z y)) H
end
end L2
set_option Elab.async false
set_option linter.all false
set_option maxRecDepth 100000
set_option maxHeartbeats 400000
namespace L2
open PySem PySem.Spec PyProof.Rows
def Its (x : Str) : It := ⟨fun i _ => i < (Lt x).length, fun i H v H' => H' = H ∧ ∃ c, (Lt x)[i]? = some c ∧ v = .str (T [c]), fun i _ => i = (Lt x).length⟩
section
variable {X : Cx} {tg : Expr}
def iStr (tl : TE) : TI := fun σ H R => tl σ H fun x H1 => ∃ z : Str, x = .str z ∧ R (Its z) H1
end
section
variable {σ : St} {H : Hp} {Q : VK} {D : Ends} {K : PySem.W.Frag}
def kForS (g : TG) (tb : TS) (D : Ends) (σ : St) (x : V) (H : Hp) : Prop := ∃ z : Str, x = .str z ∧ ∃ W : Nat → Nat → St → Hp → Prop, (∃ m, W 0 m σ H) ∧ ∀ i m σ H, W i m σ H →
  ((Its z).stop i H ∧ D.nx σ H) ∨ ((Its z).go i H ∧ ∃ N : St → Hp → Prop, (∀ σ' H', N σ' H' → ∃ m', m' < m ∧ W (i + 1) m' σ' H') ∧ ∀ x H', (Its z).yld i H x H' → g x σ H' fun σ2 H2 => tb { D with nx := N, ct := N, bk := D.nx } σ2 H2)
end
def fv (c : Nat) : Int := if 48 ≤ c ∧ c ≤ 57 then (c : Int) - 48 else if 97 ≤ c ∧ c ≤ 102 then (c : Int) - 87 else -1
def fc (d : Nat) : Nat := (Lt "0123456789abcdef").getD d 0
theorem fc_all : ∀ d ∈ List.range 16, fc d < 127 ∧ fv (fc d) = d ∧ (fc d = 48 → d = 0) := by decide +kernel
theorem fc_ok {d : Nat} (h : d < 16) : fc d < 127 ∧ fv (fc d) = d ∧ (fc d = 48 → d = 0) := fc_all d (List.mem_range.mpr h)
def val (b : Int) (l : List Nat) : Int := l.foldl (fun n c => n * b + fv c) 0
def FigB (b : Int) (l : List Nat) : Prop := ∀ c ∈ l, c < 127 ∧ 0 ≤ fv c ∧ fv c < b
theorem FigB.mono {b b' : Int} {l : List Nat} (h : FigB b l) (hb : b ≤ b') : FigB b' l := fun c hc => ⟨(h c hc).1, (h c hc).2.1, by have := (h c hc).2.2; omega⟩
theorem FigB.app {b : Int} {l m : List Nat} (h : FigB b l) (h' : FigB b m) : FigB b (l ++ m) := fun c hc => (List.mem_append.mp hc).elim (h c) (h' c)
theorem FigB.noughts {b : Int} (hb : 2 ≤ b) (m : Nat) : FigB b (List.replicate m 48) := fun c hc => by
  rw [List.eq_of_mem_replicate hc]; exact ⟨by decide, by decide, by show (0 : Int) < b; omega⟩
theorem FigB.one {b d : Nat} (hb : b ≤ 16) (h : d < b) : FigB b [fc d] := fun c hc => by
  rw [List.mem_singleton.mp hc]
  have := fc_ok (d := d) (by omega)
  exact ⟨this.1, by omega, by omega⟩
def figs (b n : Nat) : List Nat := if h : n < b ∨ b < 2 then [fc n] else figs b (n / b) ++ [fc (n % b)]
termination_by n
decreasing_by exact Nat.div_lt_self (by omega) (by omega)
end L2
set_option Elab.async false
set_option linter.all false
set_option maxRecDepth 100000
set_option maxHeartbeats 400000
namespace L2
open PySem PySem.Spec PyProof.Rows
theorem same_upd {H H' : Hp} {l : Addr} {o : HO} (g : Same H H') (n : H l = none) : Same H (upd H' l o) := fun b u q => by rw [upd_ne (ne_of_none q n)]; exact g b u q
def jn (m : List Nat) : List (List Nat) → List Nat
  | [] => []
  | x :: xs => x ++ (xs.map (m ++ ·)).flatten
def rJoinT (K : PySem.W.Frag) : V → List V → Hp → VK → Prop := fun x vs H Q => ∃ (m : Str) (p : Addr) (xs : List (List Nat)), x = .str m ∧ vs = [.ref p] ∧ H p = some (.lst (xs.map fun l => V.str (T l))) ∧ xs.flatten.length + xs.length * (Lt m).length ≤ 16777216 ∧ Q (.str (T (jn (Lt m) xs))) H
def pcs (a : List Nat) (z g e : Nat) : List (List Nat) := if h : e = 0 ∨ z = 0 then [] else pcs a z g (e - z - g) ++ [(a.take e).drop (e - z)]
termination_by e
decreasing_by omega
def RJ (z m : Nat) (b : List Nat) : List Nat := if h : b.length ≤ z ∨ z = 0 then b else b.take z ++ m :: RJ z m (b.drop z)
termination_by b.length
decreasing_by rw [List.length_drop]; omega
theorem RJ_le {z m : Nat} {b : List Nat} (h : b.length ≤ z) : RJ z m b = b := by rw [RJ]; simp [h]
theorem RJ_zero {m : Nat} {b : List Nat} : RJ 0 m b = b := by rw [RJ]; simp
theorem RJ_gt {z m : Nat} {b : List Nat} (hz : 0 < z) (h : z < b.length) : RJ z m b = b.take z ++ m :: RJ z m (b.drop z) := by
  rw [RJ]; rw [dif_neg (by omega)]
def gr (z m : Nat) (a : List Nat) : List Nat := (RJ z m a.reverse).reverse
def UJ (z : Nat) (c : List Nat) : List Nat := if h : c.length = 0 ∨ z = 0 then [] else c.take z ++ UJ z (c.drop (z + 1))
termination_by c.length
decreasing_by rw [List.length_drop]; omega
theorem UJ_nil {z : Nat} : UJ z [] = [] := by rw [UJ]; simp
theorem UJ_pos {z : Nat} {c : List Nat} (hz : 0 < z) (h : 0 < c.length) : UJ z c = c.take z ++ UJ z (c.drop (z + 1)) := by rw [UJ]; rw [dif_neg (by omega)]
def ug (z : Nat) (a : List Nat) : List Nat := if z = 0 then a else (UJ z a.reverse).reverse
theorem gr_zero {m : Nat} {a : List Nat} : gr 0 m a = a := by unfold gr; rw [RJ_zero, List.reverse_reverse]
end L2
namespace L2
open PySem PySem.Spec PyProof.Rows
end L2
set_option Elab.async false
set_option linter.all false
set_option maxRecDepth 100000
set_option maxHeartbeats 400000
namespace L2
open PySem PySem.Spec PyProof.Rows
section
variable {X : Cx} {H : Hp} {Q : VK} {K : PySem.W.Frag}
def rIsN : R2 := fun x y H Q => y = .non ∧ Q (.bl (decide (x = .non))) H
inductive NT (H : Hp) : V → Prop where
  | int (i : Int) : NT H (.int i)
  | non : NT H .non
  | bl (b : Bool) : NT H (.bl b)
  | lst {p : Addr} {xs : List V} (e : H p = some (.lst xs)) : NT H (.ref p)
  | tup {p : Addr} {xs : List V} (e : H p = some (.tup xs)) : NT H (.ref p)
  | dct {p : Addr} (e : H p = some (dctO p)) : NT H (.ref p)
theorem NT.same {H H' : Hp} {v : V} (h : NT H v) (g : Same H H') : NT H' v := by
  cases h with
  | int i => exact .int i
  | non => exact .non
  | bl b => exact .bl b
  | lst e => exact .lst (g _ _ e)
  | tup e => exact .tup (g _ _ e)
  | dct e => exact .dct (g _ _ e)
def Asc (l : List Nat) : Prop := ∀ c ∈ l, c < 127
theorem Asc.nil : Asc [] := fun _ h => nomatch h
theorem Asc.app {l m : List Nat} (h : Asc l) (h' : Asc m) : Asc (l ++ m) := fun c hc => (List.mem_append.mp hc).elim (h c) (h' c)
theorem Asc.one {c : Nat} (h : c < 127) : Asc [c] := fun d hd => by rw [List.mem_singleton.mp hd]; exact h
theorem Asc.take {l : List Nat} (h : Asc l) (n : Nat) : Asc (l.take n) := fun c hc => h c (List.mem_of_mem_take hc)
theorem Asc.drop {l : List Nat} (h : Asc l) (n : Nat) : Asc (l.drop n) := fun c hc => h c (List.mem_of_mem_drop hc)
theorem FigB.snoc {b : Int} {l : List Nat} {i c : Nat} (h : FigB b (l.take i)) (hi : l[i]? = some c) (h1 : c < 127) (h2 : 0 ≤ fv c) (h3 : fv c < b) : FigB b (l.take (i + 1)) := by
  rw [List.take_succ, hi]
  refine h.app fun d hd => ?_
  rw [List.mem_singleton.mp hd]; exact ⟨h1, h2, h3⟩
end
end L2
namespace L2
open PySem PySem.Spec PyProof.Rows
theorem pe_strT {X : Cx} {x : Str} {l : List Nat} {j : Nat} {pos : Pos} (e : x = T l) : PE X (.Constant (.str x) j pos) (tC (.str (T l))) := by
  rw [← e]; exact pe_str
end L2
set_option Elab.async false
set_option linter.all false
set_option maxRecDepth 100000
set_option maxHeartbeats 400000
namespace L2
open PySem PySem.Spec PyProof.Rows
theorem UJ_snoc {z x : Nat} (hz : 0 < z) : ∀ (k : Nat) (c : List Nat), c.length ≤ k → UJ z (c ++ [x]) = UJ z c ++ (if c.length % (z + 1) = z then [] else [x])
  | 0, c, h => by
    have e : c = [] := List.eq_nil_of_length_eq_zero (by omega)
    subst e
    rw [UJ_pos hz (by simp), UJ_nil, if_neg (by simp; omega), List.nil_append, List.take_of_length_le (by simp; omega), List.drop_of_length_le (by simp), UJ_nil]; simp
  | k + 1, c, h => by
    rcases Nat.eq_zero_or_pos c.length with p0 | p0
    · have e : c = [] := List.eq_nil_of_length_eq_zero p0
      subst e
      rw [UJ_pos hz (by simp), UJ_nil, if_neg (by simp; omega), List.nil_append, List.take_of_length_le (by simp; omega), List.drop_of_length_le (by simp), UJ_nil]; simp
    rw [UJ_pos hz (by simp), UJ_pos hz p0]
    rcases Nat.lt_trichotomy c.length z with p | p | p
    · rw [List.take_of_length_le (by simp; omega), List.take_of_length_le (by omega), List.drop_of_length_le (by simp; omega), List.drop_of_length_le (by omega), UJ_nil, if_neg (by rw [Nat.mod_eq_of_lt (by omega)]; omega)]; simp
    · rw [List.take_append_of_le_length (by omega), List.drop_of_length_le (by simp; omega), List.drop_of_length_le (by omega), UJ_nil, if_pos (by rw [Nat.mod_eq_of_lt (by omega)]; exact p)]; simp
    · rw [List.take_append_of_le_length (by omega), List.drop_append_of_le_length (by omega), UJ_snoc hz k (c.drop (z + 1)) (by rw [List.length_drop]; omega), List.length_drop, ← Nat.mod_eq_sub_mod (by omega), List.append_assoc]
theorem RJ_length {z m : Nat} (hz : 0 < z) : ∀ (k : Nat) (b : List Nat), b.length ≤ k → 1 ≤ b.length → (RJ z m b).length = b.length + (b.length - 1) / z
  | 0, b, h, h1 => by omega
  | k + 1, b, h, h1 => by
    rcases Nat.lt_or_ge z b.length with q | q
    · have ih := RJ_length (m := m) hz k (b.drop z) (by rw [List.length_drop]; omega) (by rw [List.length_drop]; omega)
      rw [List.length_drop] at ih
      rw [RJ_gt hz q, List.length_append, List.length_take, List.length_cons, ih]
      have e : (b.length - 1) / z = (b.length - z - 1) / z + 1 := by
        rw [Nat.div_eq_sub_div hz (by omega), show b.length - 1 - z = b.length - z - 1 by omega]
      omega
    · rw [RJ_le q, Nat.div_eq_of_lt (by omega)]; omega
theorem UJ_pos_len {z : Nat} {c : List Nat} (hz : 0 < z) (h : 0 < c.length) : 0 < (UJ z c).length := by
  rw [UJ_pos hz h, List.length_append, List.length_take]; omega
theorem RJ_UJ {z m : Nat} (hz : 0 < z) : ∀ (k : Nat) (c : List Nat), c.length ≤ k → c.length % (z + 1) ≠ 0 → (∀ j, j < c.length → j % (z + 1) = z → c.getD j 0 = m) → RJ z m (UJ z c) = c
  | 0, c, h, h0, _ => by rw [show c.length = 0 by omega] at h0; simp at h0
  | k + 1, c, h, h0, hm => by
    have p0 : 0 < c.length := by
      rcases Nat.eq_zero_or_pos c.length with p | p
      · rw [p] at h0; simp at h0
      · exact p
    rcases Nat.lt_trichotomy c.length (z + 1) with q | q | q
    · rw [UJ_pos hz p0, List.take_of_length_le (by omega), List.drop_of_length_le (by omega), UJ_nil, List.append_nil, RJ_le (by omega)]
    · rw [q, Nat.mod_self] at h0; exact absurd rfl h0
    · have l1 : (c.take z).length = z := by rw [List.length_take]; omega
      have l2 : (c.drop (z + 1)).length = c.length - (z + 1) := List.length_drop ..
      have ih := RJ_UJ (m := m) hz k (c.drop (z + 1)) (by omega) (by rw [l2, ← Nat.mod_eq_sub_mod (by omega)]; exact h0) (fun j hj he => by
        have z1 := hm (z + 1 + j) (by omega) (by rw [Nat.add_mod_left]; exact he)
        rw [List.getD_eq_getElem?_getD] at z1 ⊢
        rw [List.getElem?_drop]; exact z1)
      have up := UJ_pos_len (c := c.drop (z + 1)) hz (by omega)
      rw [UJ_pos hz p0, RJ_gt hz (by rw [List.length_append, l1]; omega), List.take_append_of_le_length (by omega), List.take_of_length_le (by omega), List.drop_append_of_le_length (by omega), List.drop_of_length_le (by omega), List.nil_append, ih]
      have cz := hm z (by omega) (Nat.mod_eq_of_lt (by omega))
      rw [List.getD_eq_getElem?_getD, List.getElem?_eq_getElem (by omega)] at cz
      have cz' : c[z] = m := cz
      rw [← cz', ← List.drop_eq_getElem_cons, List.take_append_drop]
def GG (z m : Nat) (t : List Nat) : Prop := 1 ≤ (ug z t).length ∧ (ug z t).length ≤ 40 ∧ gr z m (ug z t) = t
theorem GG.len {z m : Nat} {t : List Nat} (h : GG z m t) : (ug z t).length + (if 0 < z then ((ug z t).length - 1) / z else 0) = t.length := by
  have e := congrArg List.length h.2.2
  rcases Nat.eq_zero_or_pos z with p | p
  · subst p; rw [gr_zero] at e; simp; exact e
  · unfold gr at e
    rw [List.length_reverse, RJ_length p _ _ (Nat.le_refl _) (by rw [List.length_reverse]; exact h.1), List.length_reverse] at e
    rw [if_pos p]; exact e
theorem getD_rev {l : List Nat} {j : Nat} (h : j < l.length) : l.reverse.getD j 0 = l.getD (l.length - 1 - j) 0 := by
  rw [List.getD_eq_getElem?_getD, List.getD_eq_getElem?_getD, List.getElem?_reverse h]
theorem many_inj {z a b : Nat} (h1 : 1 ≤ a) (h2 : 1 ≤ b) (h : a + (a - 1) / z = b + (b - 1) / z) : a = b := by
  rcases Nat.lt_trichotomy a b with p | p | p
  · have := Nat.div_le_div_right (c := z) (show a - 1 ≤ b - 1 by omega); omega
  · exact p
  · have := Nat.div_le_div_right (c := z) (show b - 1 ≤ a - 1 by omega); omega
theorem GG.of {z m many : Nat} {t : List Nat} (h1 : 1 ≤ many) (h2 : many ≤ 40) (hl : many + (if 0 < z then (many - 1) / z else 0) = t.length) (hm : 0 < z → ∀ k, k < t.length → (t.length - 1 - k) % (z + 1) = z → t.getD k 0 = m) : GG z m t := by
  rcases Nat.eq_zero_or_pos z with p | p
  · subst p
    have e : ug 0 t = t := rfl
    unfold GG; rw [e, gr_zero]; simp at hl; exact ⟨by omega, by omega, rfl⟩
  · rw [if_pos p] at hl
    have hn : t.length % (z + 1) ≠ 0 := by
      have d := Nat.div_add_mod (many - 1) z
      have r := Nat.mod_lt (many - 1) p
      generalize (many - 1) / z = q at *
      generalize (many - 1) % z = r' at *
      have e : t.length = r' + 1 + (z + 1) * q := by rw [Nat.add_mul, Nat.one_mul]; omega
      rw [e, Nat.add_mul_mod_self_left, Nat.mod_eq_of_lt (by omega)]; omega
    have rj := RJ_UJ (m := m) p _ t.reverse (Nat.le_refl _) (by rw [List.length_reverse]; exact hn) (fun j hj he => by
      rw [List.length_reverse] at hj
      rw [getD_rev hj]
      exact hm p _ (by omega) (by rw [show t.length - 1 - (t.length - 1 - j) = j by omega]; exact he))
    have e : ug z t = (UJ z t.reverse).reverse := by unfold ug; rw [if_neg (by omega)]
    have tp : 0 < t.length := Nat.lt_of_lt_of_le (show 0 < many by omega) (by rw [← hl]; exact Nat.le_add_right _ _)
    have up := UJ_pos_len (c := t.reverse) p (by rw [List.length_reverse]; exact tp)
    have ln := RJ_length (m := m) p _ (UJ z t.reverse) (Nat.le_refl _) up
    rw [rj, List.length_reverse] at ln
    have em := many_inj (z := z) (a := (UJ z t.reverse).length) (b := many) up h1 (by omega)
    refine ⟨by rw [e, List.length_reverse]; omega, by rw [e, List.length_reverse]; omega, ?_⟩
    rw [e]; unfold gr; rw [List.reverse_reverse, rj, List.reverse_reverse]
end L2
namespace L2
open PySem PySem.Spec PyProof.Rows
section
variable {σ : St} {H : Hp} {Q : VK} {D : Ends} {K : PySem.W.Frag}
def kForR2 (g : TG) (tb : TS) (D : Ends) (σ : St) (vs : List V) (H : Hp) : Prop := ∃ i j : Int, vs = [.int i, .int j] ∧ (-(2 ^ 62) ≤ i ∧ i < 2 ^ 62 ∧ -(2 ^ 62) ≤ j ∧ j < 2 ^ 62) ∧ ∃ W : Nat → Nat → St → Hp → Prop, (∃ m, W 0 m σ H) ∧ ∀ k m σ H, W k m σ H →
  ((Itr i (j - i).toNat).stop k H ∧ D.nx σ H) ∨ ((Itr i (j - i).toNat).go k H ∧ ∃ N : St → Hp → Prop, (∀ σ' H', N σ' H' → ∃ m', m' < m ∧ W (k + 1) m' σ' H') ∧ ∀ x H', (Itr i (j - i).toNat).yld k H x H' → g x σ H' fun σ2 H2 => tb { D with nx := N, ct := N, bk := D.nx } σ2 H2)
end
end L2
set_option Elab.async false
set_option linter.all false
set_option maxRecDepth 100000
set_option maxHeartbeats 400000
namespace L2
open PySem PySem.Spec PyProof.Rows
def KD (w : World) (K : PySem.W.Frag) (d : Addr) (z : Str) (v : Addr) : Prop := ∃ (es : Array DictEntry) (n : Nat), K.lookup d = some { cls := .type "dict", data := .dict es n } ∧ (∀ e, e ∈ es → ∃ k, Value.isStrOf k e.key = true ∧ e.hash = hashStr w k) ∧ findBy Value.isStrOf es z = some (.ref v)
def rIxD (w : World) (K : PySem.W.Frag) : R2 := fun x y H Q => ∃ d z v, x = .ref d ∧ y = .str z ∧ KD w K d z v ∧ Q (.ref v) H
section
variable {X : Cx} {H : Hp} {Q : VK} {K : PySem.W.Frag} {w : World}
theorem SqT.same {H H' : Hp} {p : Addr} {xs : List V} (h : SqT K H p xs) (e : Same H H') : SqT K H' p xs := by
  rcases h with h | h
  · rcases h with h | ⟨o, h⟩
    · exact .inl (.inl (e _ _ h))
    · exact .inl (.inr ⟨o, e _ _ h⟩)
  · exact .inr h
def rIsiQ (K : PySem.W.Frag) : List V → Hp → VK → Prop := fun vs H Q => ∃ (p : Addr) (xs : List V) (T : String) (b : Bool), vs = [.ref p, .ty T] ∧ SqT K H p xs ∧ PySem.W.kitOne K (.type "tuple") (.type T) = some b ∧ Q (.bl b) H
def rNeT (K : PySem.W.Frag) : R2 := fun x y H Q => ∃ p q xs ys, x = .ref p ∧ y = .ref q ∧ SqT K H p xs ∧ SqT K H q ys ∧ xs.all flatV = true ∧ ys.all flatV = true ∧ Q (.bl (!eqVs xs ys)) H
theorem SqT.mod {p : Addr} {xs : List V} {its : List Value} {n : Nat} (lk : K.lookup p = some { cls := .type "tuple", data := .seq its.toArray n }) (hz : its.length ≤ 1000) (r : Vals xs its) : SqT K H p xs := .inr ⟨_, its.toArray, n, lk, rfl, rfl, small (by simpa using hz), by simpa using r⟩
end
def stL (x : Str) (b : Bool) : List Nat := if x = "minus" then (if b then [45] else []) else if x = "plus" then (if b then [45] else [43]) else if x = "blank" then (if b then [45] else [32]) else if x = "brackets" then (if b then [40] else []) else []
def stT (x : Str) (b : Bool) : List Nat := if x = "minus" then [] else if x = "plus" then [] else if x = "blank" then [] else if x = "brackets" then (if b then [41] else []) else (if b then [45] else [])
def Style (x : Str) : Prop := x = "minus" ∨ x = "plus" ∨ x = "blank" ∨ x = "brackets" ∨ x = "behind"
def Sty (w : World) (K : PySem.W.Frag) (d : Addr) : Prop := ∀ (x : Str), Style x → ∃ p a b : Addr, KD w K d x p ∧ ∀ H : Hp, SqT K H p [.ref a, .ref b] ∧ SqT K H a [.str (T (stL x false)), .str (T (stT x false))] ∧ SqT K H b [.str (T (stL x true)), .str (T (stT x true))]
end L2
namespace L2
open PySem PySem.Spec PyProof.Rows
end L2
set_option Elab.async false
set_option linter.all false
set_option maxRecDepth 100000
set_option maxHeartbeats 400000
namespace L2
open PySem PySem.Spec PyProof.Rows
def MapAt (P : Program) (w : World) (p : Addr) (kvs : List (Str × V)) (h : Heap) : Prop := ∃ us : List (Str × Value), Heap.DictOf (PySem.strKind P w) h p us ∧ us.map Prod.fst = kvs.map Prod.fst ∧ Vals (kvs.map Prod.snd) (us.map Prod.snd)
def mapO (P : Program) (w : World) (p : Addr) (kvs : List (Str × V)) : HO := .ext (MapAt P w p kvs)
section
variable {X : Cx} {H : Hp} {Q : VK} {K : PySem.W.Frag} {σ : St}
def PM (X : Cx) (pos : Pos) (keys : List (Option Expr)) (values : List Expr) (ks : List Str) (t : TA) : Prop :=
  ∀ (pins : List (Addr × Obj)) (s : Shared) (σ : St) (H : Hp) (R : List V → Hp → Prop), Inv X pins σ H s → t σ H R →
    wpAny (model X.prog X.w) X.A (evalPairs (pairTrees keys values X.env pos)) (fun ws s2 => ∃ vs H2, Inv X pins σ H2 s2 ∧ (∃ us : List (Str × Value), Carries (PySem.strKind X.prog X.w) ws us ∧ us.map Prod.fst = ks ∧ Vals vs (us.map Prod.snd)) ∧ R vs H2) X.xe s
def tMap (P : Program) (w : World) (ks : List Str) (t : TA) : TE := fun σ H Q => ∀ p H0, H p = none → Same H H0 → H0 p = some (mapO P w p []) → t σ H0 fun vs H1 => H1 p = some (mapO P w p []) ∧ vs.length = ks.length ∧ ∀ H2, SB p H1 H2 → H2 p = some (mapO P w p (ks.zip vs)) → Q (.ref p) H2
def lookV (kvs : List (Str × V)) (z : Str) : Option V := (kvs.find? fun kv => decide (kv.1 = z)).map Prod.snd
def rIxM (P : Program) (w : World) : R2 := fun x y H Q => ∃ p z kvs v, x = .ref p ∧ y = .str z ∧ H p = some (mapO P w p kvs) ∧ lookV kvs z = some v ∧ Q v H
end
end L2
set_option Elab.async false
set_option linter.all false
set_option maxRecDepth 100000
set_option maxHeartbeats 400000
namespace L2
open PySem PySem.Spec PyProof.Rows
section
variable {X : Cx} {σ : St} {H : Hp} {Q : VK} {D : Ends} {K : PySem.W.Frag}
def kForT (K : PySem.W.Frag) (g : TG) (tb : TS) (D : Ends) (σ : St) (x : V) (H : Hp) : Prop := ∃ a, x = .ref a ∧ (∃ xs, SqT K H a xs) ∧ ∃ W : Nat → Nat → St → Hp → Prop, (∃ m, W 0 m σ H) ∧ ∀ i m σ H, W i m σ H →
  ((Itt K a).stop i H ∧ D.nx σ H) ∨ ((Itt K a).go i H ∧ ∃ N : St → Hp → Prop, (∀ σ' H', N σ' H' → ∃ m', m' < m ∧ W (i + 1) m' σ' H') ∧ ∀ x H', (Itt K a).yld i H x H' → g x σ H' fun σ2 H2 => tb { D with nx := N, ct := N, bk := D.nx } σ2 H2)
def rEqNil (K : PySem.W.Frag) : R2 := fun x y H Q => ∃ p q xs, x = .ref p ∧ y = .ref q ∧ SqL K H p xs ∧ SqL K H q [] ∧ Q (.bl (decide (xs = []))) H
end
def bod (x : Str) (b : Bool) (t : List Nat) : List Nat := (t.take (t.length - (stT x b).length)).drop (stL x b).length
def Fg (l : List Nat) : Prop := l ≠ [] ∧ 0 ≤ fv (l.getD 0 0) ∧ 0 ≤ fv (l.getD (l.length - 1) 0)
def Sgd (x : Str) (b : Bool) (t : List Nat) : Prop := Fg (bod x b t) ∧ stL x b ++ bod x b t ++ stT x b = t
end L2
namespace L2
open PySem PySem.Spec PyProof.Rows
end L2
namespace L2
open PySem PySem.Spec PyProof.Rows
end L2
set_option Elab.async false
set_option linter.all false
set_option maxRecDepth 100000
set_option maxHeartbeats 400000
namespace L2
open PySem PySem.Spec PyProof.Rows
section
variable {X : Cx} {H : Hp} {Q : VK} {K : PySem.W.Frag} {σ : St}
def rRjT : V → List V → Hp → VK → Prop := fun x vs H Q => ∃ (a : List Nat) (i : Int) (c : Nat), x = .str (T a) ∧ vs = [.int i, .str (T [c])] ∧ 0 ≤ i ∧ i ≤ 1000 ∧ Q (.str (T (List.replicate (i.toNat - a.length) c ++ a))) H
end
def dgs (b p n : Nat) : List Nat := List.replicate (p + 1 - (figs b n).length) 48 ++ figs b n
def dF (b least k : Nat) (l : List Nat) : List Nat := if k = 0 then List.replicate (least - l.length) 48 ++ l else List.replicate (least - (figs b k).length - l.length) 48 ++ (figs b k ++ l)
def whl (b p n : Nat) : List Nat := (dgs b p n).take ((dgs b p n).length - p)
def rst (b p n : Nat) : List Nat := (dgs b p n).drop ((dgs b p n).length - p)
def bdy (b p pt z m n : Nat) : List Nat := if p = 0 then gr z m (whl b p n) else gr z m (whl b p n) ++ [pt] ++ rst b p n
end L2
set_option Elab.async false
set_option linter.all false
set_option maxRecDepth 100000
set_option maxHeartbeats 400000
namespace L2
open PySem PySem.Spec PyProof.Rows
def KnAt (P : Program) (w : World) (p : Addr) (kvs : List (Str × V)) (h : Heap) : Prop := (p == sysModules) = false ∧ MapAt P w p kvs h
def knO (P : Program) (w : World) (p : Addr) (kvs : List (Str × V)) : HO := .ext (KnAt P w p kvs)
section
variable {X : Cx} {H : Hp} {Q : VK} {K : PySem.W.Frag} {σ : St}
def tKn0 (P : Program) (w : World) : TE := fun σ H Q => ∀ p H', H p = none → Same H H' → H' p = some (knO P w p []) → Q (.ref p) H'
def rSetD (P : Program) (w : World) : V → List V → Hp → VK → Prop := fun x vs H Q => ∃ p kvs z v, x = .ref p ∧ vs = [.str z, v] ∧ H p = some (knO P w p kvs) ∧ kvs.length ≤ 1000 ∧ (∀ u, lookV kvs z = some u → Q u H) ∧ (lookV kvs z = none → ∀ H', SB p H H' → H' p = some (knO P w p (kvs ++ [(z, v)])) → Q v H')
def tBMD (P : Program) (w : World) (r : V → List V → Hp → VK → Prop) (to : TE) (t : TA) : TE := fun σ H Q => to σ H fun x H1 => (∃ p kvs, x = .ref p ∧ H1 p = some (knO P w p kvs)) ∧ t σ H1 fun xs H2 => r x xs H2 Q
end
theorem FigB.get {b : Int} {l : List Nat} (h : FigB b l) {i : Nat} (hi : i < l.length) : 0 ≤ fv (l.getD i 0) := by
  rw [List.getD_eq_getElem?_getD, List.getElem?_eq_getElem hi]; exact (h _ (List.getElem_mem hi)).2.1
end L2
set_option Elab.async false
set_option linter.all false
set_option maxRecDepth 100000
set_option maxHeartbeats 400000
namespace L2
open PySem PySem.Spec PyProof.Rows
def PassOn (X : Cx) (E : XK) : Prop := ∀ (pins : List (Addr × Obj)) (σ : St) (e : Value) (s' : Shared), XP X pins σ E e s' → X.xe e s'
section
variable {P : Program} {w : World} {K : PySem.W.Frag} {mg : Str → Option Value} {base : Heap} {N : List Str} {qual : Str} {scope : Scope} {f : Addr} {cd : Value} {A : Around} {outer : List Env} {s : Shared} {H : Hp} {E : XK}
end
end L2
namespace L2
open PySem PySem.Spec PyProof.Rows
end L2
set_option Elab.async false
set_option linter.all false
set_option maxRecDepth 100000
set_option maxHeartbeats 400000
namespace L2
open PySem PySem.Spec PyProof.Rows
abbrev tsV (ts : List (List Nat)) : List V := ts.map fun l => V.str (T l)
section
variable {X : Cx} {H : Hp} {Q : VK} {K : PySem.W.Frag}
def rEqLs (K : PySem.W.Frag) : R2 := fun x y H Q => ∃ (p q : Addr) (as bs : List (List Nat)), x = .ref p ∧ y = .ref q ∧ SqL K H p (tsV as) ∧ SqL K H q (tsV bs) ∧ Q (.bl (decide (as = bs))) H
def rNeLs (K : PySem.W.Frag) : R2 := fun x y H Q => ∃ (p q : Addr) (as bs : List (List Nat)), x = .ref p ∧ y = .ref q ∧ SqL K H p (tsV as) ∧ SqL K H q (tsV bs) ∧ Q (.bl (!decide (as = bs))) H
def rListOf (K : PySem.W.Frag) : List V → Hp → VK → Prop := fun xs H Q => ∃ p ys, xs = [.ref p] ∧ (SqL K H p ys ∨ SqT K H p ys) ∧ ∀ l, H l = none → Q (.ref l) (upd H l (.lst ys))
theorem call_listOf : CallR X (.type "list") (rListOf X.K) := call_list_of
theorem r_listOf {p : Addr} {ys : List V} (h : SqL K H p ys) (q : ∀ l H', Same H H' → H l = none → H' l = some (.lst ys) → Q (.ref l) H') : rListOf K [.ref p] H Q := ⟨p, ys, rfl, .inl h, fun l hl => q l _ (same_upd (Same.refl _) hl) hl upd_same⟩
theorem r_kLstN {xs : List V} (hz : xs.length ≤ sizeLine) (q : ∀ l H', Same H H' → H l = none → H' l = some (.lst xs) → Q (.ref l) H') : kLst Q xs H := ⟨hz, fun l hl => q l _ (same_upd (Same.refl _) hl) hl upd_same⟩
theorem Same.freeX {H H' : Hp} {p : Addr} (g : Same H H') (h : H' p = Option.none) : H p = Option.none := g.free h
theorem r_isi_ll {p : Addr} {xs : List V} (h : H p = some (.lst xs)) (q : Q (.bl true) H) : rIsi K [.ref p, .ty "list"] H Q := r_isi (.lst h) ⟨_, .inl rfl⟩ (kit_list_list K) q
def rStartT : V → List V → Hp → VK → Prop := fun x xs H Q => ∃ a b : List Nat, x = .str (T a) ∧ xs = [.str (T b)] ∧ Q (.bl (decide (a.take b.length = b))) H
end
end L2
set_option Elab.async false
set_option linter.all false
set_option maxRecDepth 100000
set_option maxHeartbeats 400000
namespace L2
open PySem PySem.Spec PyProof.Rows
def lk (n w : Int) : Int := if n < w then w - n else 0
def Side (x : Str) : Prop := x = "left" ∨ x = "right" ∨ x = "middle"
def pA (x : Str) (n w : Int) : Int := if x = "left" then 0 else if x = "right" then lk n w else lk n w / 2
def pB (x : Str) (n w : Int) : Int := lk n w - pA x n w
def PadsB (x : Str) (n w : Int) : Prop := 0 ≤ pA x n w ∧ 0 ≤ pB x n w ∧ pA x n w + pB x n w = lk n w ∧ (x = "left" → pA x n w = 0) ∧ (x = "right" → pB x n w = 0) ∧ (x = "middle" → pB x n w = pA x n w ∨ pB x n w = pA x n w + 1)
def pad (t : List Nat) (w : Int) (f : Nat) (x : Str) : List Nat := List.replicate (pA x t.length w).toNat f ++ t ++ List.replicate (pB x t.length w).toNat f
def sl (t : List Nat) (w : Int) (x : Str) (n : Nat) : List Nat := (t.take ((pA x n w) + n).toNat).drop (pA x n w).toNat
def gd (t : List Nat) (w : Int) (f : Nat) (x : Str) (n : Nat) : Bool := decide (pad (sl t w x n) w f x = t)
def strips (t : List Nat) (w : Int) (f : Nat) (x : Str) : List (List Nat) := if w < t.length then [t] else ((List.range (w + 1).toNat).filter (gd t w f x)).map (sl t w x)
def nxt (t : List Nat) (w : Int) (f : Nat) (x : Str) : List Nat := if x = "left" ∨ (x = "middle" ∧ (w - t.length) % 2 = 1) then t ++ [f] else [f] ++ t
def Fst (t : List Nat) (w : Int) (f : Nat) (x : Str) : Prop := w < t.length ∨ ((x = "left" → t.drop (t.length - 1) ≠ [f]) ∧ (x = "right" → t.take 1 ≠ [f]) ∧ (x = "middle" → t.take 1 ≠ [f] ∧ t.drop (t.length - 1) ≠ [f]))
structure Fnd (t : List Nat) (w : Int) (f : Nat) (x : Str) (W : List Nat) (F : List (List Nat)) : Prop where
  has : t ∈ F
  pos : 0 < F.length
  last : F.getD (F.length - 1) [] = W
  each : ∀ k, k < F.length → pad (F.getD k []) w f x = W
  len : ∀ k, k < F.length → (F.getD k []).length ≤ W.length
  next : ∀ k, 0 < k → k < F.length → F.getD k [] = nxt (F.getD (k - 1) []) w f x
  first : Fst t w f x → F.getD 0 [] = t
def fa (f : Nat) : List Nat → Nat
  | [] => 0
  | c :: t => if c = f then fa f t + 1 else 0
end L2
set_option Elab.async false
set_option linter.all false
set_option maxRecDepth 100000
set_option maxHeartbeats 400000
namespace L2
open PySem PySem.Spec PyProof.Rows
structure FunD (K : PySem.W.Frag) (x qual : Str) (st : Stmt) (f : Addr) (fd : FuncData) : Prop where
  ex : ∃ (oc : Value) (od : Option Addr) (dV kV doc pm : Value) (an : Option Addr) (cdv ct : Value) (osl : Array (Option Value)),
    fd = PySem.W.fnOf x qual (defArgs st) (defBody st) (defScope st) dV kV doc pm an cdv ct ∧ K.lookup f = some ⟨oc, od, .func fd, osl⟩ ∧ PySem.W.codeIn K cdv qual = true
  kp : PySem.W.keepIn K (.ref f) = true
theorem Fun.d {K : PySem.W.Frag} {x qual : Str} {st : Stmt} {f : Addr} {fd : FuncData} (F : Fun K x qual st f fd) : FunD K x qual st f fd := by
  obtain ⟨oc, od, kV, doc, pm, an, cdv, ct, osl, h⟩ := F.ex
  exact ⟨⟨oc, od, .none, kV, doc, pm, an, cdv, ct, osl, h⟩, F.kp⟩
section
variable {P : Program} {w : World} {K : PySem.W.Frag} {mg : Str → Option Value} {base : Heap}
theorem FunD.ok {x qual : Str} {st : Stmt} {f : Addr} {fd : FuncData} {N ps : List Str} {k : Nat} {sp : Sp} (F : FunD K x qual st f fd) (S : FnScope N ps (defScope st)) (len : ∀ vs H Q E, sp vs H Q E → vs.length = ps.length)
    (hbody : ∀ (cdv : Value) (A : Around) (outer : List Env) (s : Shared) (H : Hp) (vs : List V) (Q : VK) (E : XK), Room k (A.deeper (envOfC qual (defScope st) s.heap.objs.size f cdv)) → sp vs H Q E →
      ∃ t, PSs (cxOf CX0 P w K mg base N qual (defScope st) f cdv A outer s H E).nox (defBody st) t ∧ t { nx := fun _ H' => Q .non H', rt := Q } (start N vs) H) : FnOk P w K mg base CX0 (k + 1) f fd ps sp := by
  obtain ⟨oc, od, dV, kV, doc, pm, an, cdv, ct, osl, rfl, lk, hcd⟩ := F.ex
  refine fn_of lk hcd S len fun A outer s H vs Q E hr hsp => ?_
  obtain ⟨t, h, q⟩ := hbody cdv A outer s H vs Q E hr hsp
  exact ⟨t, h.nox, q⟩
theorem FunD.binds {x qual : Str} {st : Stmt} {f : Addr} {fd : FuncData} {ps : List Str} (F : FunD K x qual st f fd)
    (h : ∀ (dV kV doc pm : Value) (an : Option Addr) (cdv ct : Value) (us : List Value), us.length = ps.length → bindArgs (PySem.W.fnOf x qual (defArgs st) (defBody st) (defScope st) dV kV doc pm an cdv ct) ⟨us, []⟩ = pure (ps.zip us)) : Binds K fd ps [] := by
  obtain ⟨oc, od, dV, kV, doc, pm, an, cdv, ct, osl, rfl, lk, hcd⟩ := F.ex
  exact .all (h dV kV doc pm an cdv ct)
theorem funD_mk {x qual : Str} {st : Stmt} {f : Addr} {oc : Value} {od an : Option Addr} {osl : Array (Option Value)} {dV kV doc pm cdv ct : Value} (l : K.lookup f = some ⟨oc, od, .func (PySem.W.fnOf x qual (defArgs st) (defBody st) (defScope st) dV kV doc pm an cdv ct), osl⟩)
    (c : PySem.W.codeIn K cdv qual = true) (k : PySem.W.keepIn K (.ref f) = true) : FunD K x qual st f (PySem.W.fnOf x qual (defArgs st) (defBody st) (defScope st) dV kV doc pm an cdv ct) := ⟨⟨oc, od, dV, kV, doc, pm, an, cdv, ct, osl, rfl, l, c⟩, k⟩
end
def HasM (P : Program) (w : World) (K : PySem.W.Frag) (mg : Str → Option Value) (base : Heap) (CX : CXT) (C : Addr) (m : Str) (k : Nat) (ps : List Str) (sp : Sp) : Prop :=
  ∃ (f : Addr) (fd : FuncData), FnOk P w K mg base CX k f fd ps sp ∧ Meth K C m f ∧ Binds K fd ps []
def HasI (P : Program) (w : World) (K : PySem.W.Frag) (mg : Str → Option Value) (base : Heap) (CX : CXT) (C : Addr) (k : Nat) (ps : List Str) (sp : Sp) : Prop :=
  ∃ (f : Addr) (fd : FuncData), FnOk P w K mg base CX k f fd ps sp ∧ Mk K C f ∧ Binds K fd ps []
structure CMeth (K : PySem.W.Frag) (C : Addr) (m : Str) (f : Addr) : Prop where
  sp : PySem.W.specialIn K (.ref C) "__getattribute__" = some (some (.builtin "type.__getattribute__"))
  rd : PySem.W.readsIn K C (.type "type") = true
  fc : PySem.W.findCls K (.ref C) (.type "type") m = some (.val (.ref f))
  kp : PySem.W.keepIn K (.ref f) = true
def HasC (P : Program) (w : World) (K : PySem.W.Frag) (mg : Str → Option Value) (base : Heap) (CX : CXT) (C : Addr) (m : Str) (k : Nat) (ps : List Str) (sp : Sp) : Prop :=
  ∃ (f : Addr) (fd : FuncData), FnOk P w K mg base CX k f fd ps sp ∧ CMeth K C m f ∧ Binds K fd ps []
section
variable {X : Cx} {CX : CXT} {k n : Nat} {C : Addr} {ps : List Str} {sp : Sp} {E : XK} {x m : Str} {p np pos apos : Pos} {e o : Expr} {es : List Expr} {ta : TE} {t : TA}
end
section
variable {σ : St} {H : Hp} {Q : VK} {D : Ends} {K : PySem.W.Frag} {C : Addr} {m f : Str} {sp : Sp} {E : XK} {ta tv : TE} {t : TA} {a : Addr}
def InsM (H : Hp) (a C : Addr) (m : Str) : Prop := ∃ dx fs, H a = some (.ins C dx fs) ∧ fs.lookup m = none
def FldAt (K : PySem.W.Frag) (H : Hp) (a : Addr) (f : Str) (v : V) : Prop := ∃ C dx fs, H a = some (.ins C dx fs) ∧ Cls K C ∧ NoAttr K C f ∧ fs.lookup f = some v
theorem InsM.same {H' : Hp} (g : Same H H') (h : InsM H a C m) : InsM H' a C m := by obtain ⟨dx, fs, e, l⟩ := h; exact ⟨dx, fs, g _ _ e, l⟩
theorem FldAt.same {H' : Hp} {v : V} (g : Same H H') (h : FldAt K H a f v) : FldAt K H' a f v := by obtain ⟨C, dx, fs, e, l⟩ := h; exact ⟨C, dx, fs, g _ _ e, l⟩
def kMeth (C : Addr) (m : Str) (sp : Sp) (dvs : List V) (E : XK) (t : TA) (σ : St) (Q : VK) : VK := fun x H1 => ∃ a dx fs, x = .ref a ∧ H1 a = some (.ins C dx fs) ∧ fs.lookup m = none ∧ t σ H1 fun vs H2 => sp (x :: (vs ++ dvs)) H2 Q E
def kFld (K : PySem.W.Frag) (f : Str) (Q : VK) : VK := fun x H1 => ∃ a C dx fs v, x = .ref a ∧ H1 a = some (.ins C dx fs) ∧ Cls K C ∧ NoAttr K C f ∧ fs.lookup f = some v ∧ Q v H1
def kSet (K : PySem.W.Frag) (f : Str) (y : V) (D : Ends) (σ : St) : VK := fun x H2 => ∃ a C dx fs, x = .ref a ∧ H2 a = some (.ins C dx fs) ∧ Cls K C ∧ NoAttr K C f ∧ fs.length < 1000 ∧ D.nx σ (upd H2 a (.ins C dx (putF f y fs)))
def kMake (C : Addr) (sp : Sp) (dvs : List V) (E : XK) (Q : VK) : List V → Hp → Prop := fun vs H1 => ∀ x dx, H1 x = none → H1 dx = none → dx ≠ x →
  sp (.ref x :: (vs ++ dvs)) (upd (upd H1 dx (.own x)) x (.ins C dx [])) (fun v H2 => v = .non ∧ Q (.ref x) H2) E
theorem putF_nil (f : Str) (v : V) : putF f v [] = [(f, v)] := rfl
theorem putF_ne {f k : Str} {v x : V} {r : List (Str × V)} (h : k ≠ f) : putF f v ((k, x) :: r) = (k, x) :: putF f v r := by
  rw [show putF f v ((k, x) :: r) = (if k = f then (k, v) :: r else (k, x) :: putF f v r) from rfl, if_neg h]
theorem lk_eq {k : Str} {x : V} {r : List (Str × V)} : ((k, x) :: r).lookup k = some x := by simp [List.lookup]
theorem lk_ne {f k : Str} {x : V} {r : List (Str × V)} (h : f ≠ k) : ((k, x) :: r).lookup f = r.lookup f := by
  have : (f == k) = false := by simpa using h
  simp [List.lookup, this]
end
def Wk (σc σ : St) : Prop := σc.length = σ.length ∧ ∀ (i : Nat) v, σc[i]? = some (some v) → σ[i]? = some (some v)
theorem Wk.nil : Wk [] [] := ⟨rfl, fun i v h => h⟩
theorem Wk.one {a b : St} {x : Option V} (h : Wk a b) : Wk (x :: a) (x :: b) := ⟨by rw [List.length_cons, List.length_cons, h.1], fun i v e => by
  cases i with
  | zero => exact e
  | succ i => exact h.2 i v e⟩
theorem Wk.any {a b : St} {x : Option V} (h : Wk a b) : Wk (none :: a) (x :: b) := ⟨by rw [List.length_cons, List.length_cons, h.1], fun i v e => by
  cases i with
  | zero => exact absurd (Option.some.inj e) (by simp)
  | succ i => exact h.2 i v e⟩
def Cx.tr (X : Cx) (pins : List (Addr × Obj)) (σc : St) (E : XK) : Cx := { X with pn := X.pn ++ pins, xe := XP X pins σc E }
section
variable {X : Cx} {pins pins0 : List (Addr × Obj)} {σ σc : St} {H : Hp} {s : Shared} {E : XK}
theorem Cx.Ok.tr (ok : X.Ok) : (X.tr pins σc E).Ok := ⟨ok.mod, ok.kind, ok.glob, ok.blt, ok.above, ok.inj, ok.has, ok.cab, ok.hd, ok.frames, ok.stk, ok.exf, ok.bs, ok.bsz, ok.noex, ok.exfs, ok.funs, ok.frf⟩
theorem Inv.tr (I : Inv X pins σ H s) : Inv (X.tr pins σc E) [] σ H s := ⟨I.ok.tr, I.os, I.bare, I.base, I.loc, I.cell, I.free, I.freeC, fun p hp => I.pin p (by simpa [Cx.tr] using hp), I.hok, I.len⟩
end
def PHs (X : Cx) (hs : List ExceptHandler) (th : Addr → TS) : Prop :=
  ∀ (pins : List (Addr × Obj)) (s : Shared) (σ : St) (H : Hp) (D : Ends) (y C : Addr) (B : Heap) (a0 : Value), Heap.FlyingW B (X.env :: X.outer) y (.ref C) a0 s.heap → Inv X pins σ H s →
    (∀ h', B.StaysIn h' → s.heap.UpToSlots h' → Inv X pins σ H { s with heap := h' }) → th C D σ H → wpAny (model X.prog X.w) X.A (handleBy (.ref y) X.env hs) (SP X pins D) X.xe s
def tHn : Addr → TS := fun _ _ _ _ => False
def tHc (K : PySem.W.Frag) (C' : Addr) (ts : TS) (th : Addr → TS) : Addr → TS := fun C D σ H => ∃ b, PySem.W.exmOne K (.ref C) (.ref C') = some b ∧ if b = true then ts D σ H else th C D σ H
section
variable {X : Cx} {cx : Str} {C' : Addr} {ts : TS} {th : Addr → TS} {np hpos pos : Pos} {b₀ : Stmt} {suite body : List Stmt} {rest hs : List ExceptHandler} {h₀ : ExceptHandler} {tb : St → XK → TS}
def tTryG (tb : St → XK → TS) (th : Addr → TS) : TS := fun D σ H => ∃ σc, tb σc (fun cls _ H2 => ∃ C, cls = .ref C ∧ th C D σc H2) D σ H
end
section
variable {X : Cx} {pins0 : List (Addr × Obj)} {σc : St} {k n : Nat} {C : Addr} {ps : List Str} {sp : Sp} {E : XK} {x m : Str} {p np pos apos : Pos} {e o : Expr} {es : List Expr} {ta : TE} {t : TA}
def tMethT (C : Addr) (m : Str) (sp : Sp) (E : XK) (σc : St) (ta : TE) (t : TA) : TE := fun σ H Q => ta σ H (kMeth C m (fun vs H Q E => Wk σc σ ∧ sp vs H Q E) [] E t σ Q)
def tCallT (sp : Sp) (E : XK) (σc : St) (t : TA) : TE := fun σ H Q => t σ H fun vs H1 => Wk σc σ ∧ sp (vs ++ []) H1 Q E
variable {σ : St} {H : Hp} {Q : VK}
end
end L2
set_option Elab.async false
set_option linter.all false
set_option maxRecDepth 100000
set_option maxHeartbeats 400000
namespace L2
open PySem PySem.Spec PyProof.Rows
def ItrD (hi : Int) (n : Nat) : It := ⟨fun i _ => i < n, fun i H x H' => H' = H ∧ x = .int (hi - i), fun i _ => n ≤ i⟩
section
variable {X : Cx} {tg : Expr}
def iRngD (ta : TA) : TI := fun σ H R => ta σ H fun vs H1 => ∃ i j : Int, vs = [.int i, .int j, .int (-1)] ∧ (-(2 ^ 62) ≤ i ∧ i < 2 ^ 62 ∧ -(2 ^ 62) ≤ j ∧ j < 2 ^ 62) ∧ R (ItrD i (i - j).toNat) H1
def kForD (g : TG) (tb : TS) (D : Ends) (σ : St) (vs : List V) (H : Hp) : Prop := ∃ i j : Int, vs = [.int i, .int j, .int (-1)] ∧ (-(2 ^ 62) ≤ i ∧ i < 2 ^ 62 ∧ -(2 ^ 62) ≤ j ∧ j < 2 ^ 62) ∧ ∃ W : Nat → Nat → St → Hp → Prop, (∃ m, W 0 m σ H) ∧ ∀ k m σ H, W k m σ H →
  ((ItrD i (i - j).toNat).stop k H ∧ D.nx σ H) ∨ ((ItrD i (i - j).toNat).go k H ∧ ∃ N : St → Hp → Prop, (∀ σ' H', N σ' H' → ∃ m', m' < m ∧ W (k + 1) m' σ' H') ∧ ∀ x H', (ItrD i (i - j).toNat).yld k H x H' → g x σ H' fun σ2 H2 => tb { D with nx := N, ct := N, bk := D.nx } σ2 H2)
def picks (z : Str) (lo hi : Option Int) (st : Int) : List Nat := (Builtin.Str.strSliceIndices lo hi st z.length).filterMap ((Lt z)[·]?)
def rSl3 : V → Option Int → Option Int → Int → Hp → VK → Prop := fun x lo hi st H Q => ∃ z : Str, x = .str z ∧ st ≠ 0 ∧ z.length ≤ sizeLine ∧ (picks z lo hi st).length ≤ sizeLine ∧ ∀ y, (y = T (picks z lo hi st) ∨ (st = 1 ∧ y = z)) → Q (.str y) H
def tSl3 (r : V → Option Int → Option Int → Int → Hp → VK → Prop) (te : TE) (tl th : TO) (ts : TE) : TE := fun σ H Q => te σ H fun x H1 => tl σ H1 fun l H2 => th σ H2 fun u H3 => ts σ H3 fun s H4 => ∃ i, s = .int i ∧ r x l u i H4 Q
theorem r_kCompRN {σ : St} {H : Hp} {Q : VK} {is : List Nat} {tt : TT} {te : TE} {j : Int} (h1 : -(2 ^ 62) ≤ j) (h2 : j < 2 ^ 62) (hz : j.toNat ≤ sizeLine) (Pv : Nat → List V → Hp → Prop) (h0 : Pv 0 [] H) (hl : ∀ i ys H, i ≤ j.toNat → Pv i ys H → ys.length ≤ i)
    (hs : ∀ i ys H, i < j.toNat → Pv i ys H → tt (some (.int (0 + i)) :: is.map fun j => (σ[j]?).getD none) H fun ok H2 => if ok = true then te (some (.int (0 + i)) :: is.map fun j => (σ[j]?).getD none) H2 fun y H3 => NxC j.toNat Pv i (ys ++ [y]) H3 else NxC j.toNat Pv i ys H2)
    (hd : ∀ ys H, Pv j.toNat ys H → ∀ p H', Same H H' → H p = none → H' p = some (.lst ys) → Q (.ref p) H') : kCompR is tt te σ Q [.int j] H := by
  refine ⟨j, rfl, h1, h2, fun i m ys H => m = j.toNat - i ∧ i ≤ j.toNat ∧ Pv i ys H, ⟨j.toNat, by simp, Nat.zero_le _, h0⟩, ?_⟩
  rintro i m ys H ⟨rfl, hi, p⟩
  have ly := hl i ys H hi p
  refine ⟨by omega, ?_⟩
  by_cases hlt : i < j.toNat
  · refine .inr ⟨hlt, by omega, fun x H' y => ?_⟩
    obtain ⟨e, y⟩ := y
    subst e y
    exact hs i ys _ hlt p
  · have e : i = j.toNat := by omega
    subst e
    exact .inl ⟨Nat.le_refl _, fun p' hp => hd ys H p p' _ (same_new hp _) hp upd_same⟩
end
end L2
set_option Elab.async false
set_option linter.all false
set_option maxRecDepth 100000
set_option maxHeartbeats 400000
namespace L2
open PySem PySem.Spec PyProof.Rows
def NoAttrs (K : PySem.W.Frag) (C : Addr) : List Str → Prop
  | [] => True
  | f :: r => NoAttr K C f ∧ NoAttrs K C r
theorem NoAttrs.at {K : PySem.W.Frag} {C : Addr} {f : Str} : ∀ {l : List Str}, NoAttrs K C l → f ∈ l → NoAttr K C f
  | [], _, h => by cases h
  | g :: r, n, h => by
    rcases List.mem_cons.mp h with rfl | h
    · exact n.1
    · exact n.2.at h
def bfs (wd : Int) (f : Nat) (x : Str) (st : Bool) (more : List (Str × V)) : List (Str × V) := ("width", .int wd) :: ("fill", .str (T [f])) :: ("side", .str x) :: ("strict", .bl st) :: more
def bns : List Str := ["width", "fill", "side", "strict"]
structure FormAt (K : PySem.W.Frag) (H : Hp) (a C : Addr) (wd : Int) (f : Nat) (x : Str) (st : Bool) (more : List (Str × V)) : Prop where
  at_ : ∃ dx, H a = some (.ins C dx (bfs wd f x st more))
  cl : Cls K C
  na : NoAttrs K C (bns ++ more.map (·.1))
section
variable {K : PySem.W.Frag} {H H' : Hp} {a C : Addr} {wd : Int} {f : Nat} {x : Str} {st : Bool} {more : List (Str × V)} {g m : Str} {v : V}
theorem FormAt.same (s : Same H H') (F : FormAt K H a C wd f x st more) : FormAt K H' a C wd f x st more := ⟨F.at_.imp fun _ e => s _ _ e, F.cl, F.na⟩
theorem bfs_width : (bfs wd f x st more).lookup ("width" : Str) = some (.int wd) := lk_eq
theorem bfs_fill : (bfs wd f x st more).lookup ("fill" : Str) = some (.str (T [f])) := (lk_ne (by decide +kernel)).trans lk_eq
theorem bfs_side : (bfs wd f x st more).lookup ("side" : Str) = some (.str x) := (lk_ne (by decide +kernel)).trans ((lk_ne (by decide +kernel)).trans lk_eq)
theorem bfs_strict : (bfs wd f x st more).lookup ("strict" : Str) = some (.bl st) := (lk_ne (by decide +kernel)).trans ((lk_ne (by decide +kernel)).trans ((lk_ne (by decide +kernel)).trans lk_eq))
theorem bfs_more (h : g ∉ bns) : (bfs wd f x st more).lookup g = more.lookup g := by
  simp only [bns, List.mem_cons, List.not_mem_nil, or_false, not_or] at h
  exact (lk_ne h.1).trans ((lk_ne h.2.1).trans ((lk_ne h.2.2.1).trans (lk_ne h.2.2.2)))
theorem FormAt.fld (F : FormAt K H a C wd f x st more) (n : g ∈ bns ++ more.map (·.1)) (l : (bfs wd f x st more).lookup g = some v) : FldAt K H a g v := by
  obtain ⟨dx, e⟩ := F.at_
  exact ⟨C, dx, _, e, F.cl, F.na.at n, l⟩
theorem FormAt.width (F : FormAt K H a C wd f x st more) : FldAt K H a "width" (.int wd) := F.fld (List.mem_append_left _ (by decide +kernel)) bfs_width
theorem FormAt.fill (F : FormAt K H a C wd f x st more) : FldAt K H a "fill" (.str (T [f])) := F.fld (List.mem_append_left _ (by decide +kernel)) bfs_fill
theorem FormAt.side (F : FormAt K H a C wd f x st more) : FldAt K H a "side" (.str x) := F.fld (List.mem_append_left _ (by decide +kernel)) bfs_side
theorem FormAt.strict (F : FormAt K H a C wd f x st more) : FldAt K H a "strict" (.bl st) := F.fld (List.mem_append_left _ (by decide +kernel)) bfs_strict
theorem FormAt.own (F : FormAt K H a C wd f x st more) (h : g ∉ bns) (l : more.lookup g = some v) (n : g ∈ more.map (·.1)) : FldAt K H a g v := F.fld (List.mem_append_right _ n) ((bfs_more h).trans l)
end
section
variable {X : Cx} {K : PySem.W.Frag} {σ : St} {H : Hp} {Q : VK} {is : List Nat} {tt : TT} {te : TE}
def rAll (K : PySem.W.Frag) : List V → Hp → VK → Prop := fun xs H Q => ∃ (p : Addr) (bs : List Bool), xs = [.ref p] ∧ SqL K H p (bs.map V.bl) ∧ Q (.bl (bs.all id)) H
def kCompS (is : List Nat) (tt : TT) (te : TE) (σ : St) (Q : VK) (x : V) (H : Hp) : Prop := ∃ z : Str, x = .str z ∧ kComp is tt te σ Q (Its z) H
end
end L2
set_option Elab.async false
set_option linter.all false
set_option maxRecDepth 100000
set_option maxHeartbeats 400000
namespace L2
open PySem PySem.Spec PyProof.Rows
mutual
inductive Dt (K : PySem.W.Frag) (H : Hp) : V → PyData → Prop
  | non : Dt K H .non .none
  | bl (b : Bool) : Dt K H (.bl b) (.bool b)
  | int (i : Int) : Dt K H (.int i) (.int i)
  | str (z : Str) : Dt K H (.str z) (.str z)
  | lst {p : Addr} {xs : List V} {ds : List PyData} : SqL K H p xs → Dts K H xs ds → Dt K H (.ref p) (.list ds)
  | tup {p : Addr} {xs : List V} {ds : List PyData} : SqT K H p xs → Dts K H xs ds → Dt K H (.ref p) (.tuple ds)
inductive Dts (K : PySem.W.Frag) (H : Hp) : List V → List PyData → Prop
  | nil : Dts K H [] []
  | cons {x : V} {d : PyData} {xs : List V} {ds : List PyData} : Dt K H x d → Dts K H xs ds → Dts K H (x :: xs) (d :: ds)
end
section
variable {X : Cx} {pins : List (Addr × Obj)} {σ : St} {H H' : Hp} {s : Shared} {K : PySem.W.Frag} {Q : VK}
mutual
theorem reads_of (I : Inv X pins σ H s) : ∀ {x : V} {d : PyData} {u : Value}, Dt X.K H x d → RelV x u → ∃ as, Reads s.heap u d as
  | _, _, _, .non, r => by cases r; exact ⟨_, .none⟩
  | _, _, _, .bl b, r => by cases r; exact ⟨_, .bool b⟩
  | _, _, _, .int i, r => by obtain ⟨t, rfl⟩ := r; exact ⟨_, .int i t⟩
  | _, _, _, .str z, r => by obtain ⟨t, rfl⟩ := r; exact ⟨_, .str z t⟩
  | _, _, _, .lst h hs, r => by
    cases r
    obtain ⟨its, ri, pl, _⟩ := I.list h
    obtain ⟨as, q⟩ := readsAll_of I hs ri
    obtain ⟨o, e, c, n, d⟩ := pl.isList
    exact ⟨_, .list e c d (by simpa using q)⟩
  | _, _, _, .tup h hs, r => by
    cases r
    obtain ⟨its, ri, pl, _⟩ := I.tuple h
    obtain ⟨as, q⟩ := readsAll_of I hs ri
    obtain ⟨o, e, c, n, d⟩ := pl
    exact ⟨_, .tuple e c d (by simpa using q)⟩
theorem readsAll_of (I : Inv X pins σ H s) : ∀ {xs : List V} {ds : List PyData} {us : List Value}, Dts X.K H xs ds → Vals xs us → ∃ as, ReadsAll s.heap us ds as
  | _, _, _, .nil, .nil => ⟨_, .nil⟩
  | _, _, _, .cons h hs, .cons r rs => by
    obtain ⟨as, q⟩ := reads_of I h r
    obtain ⟨bs, qs⟩ := readsAll_of I hs rs
    exact ⟨_, .cons q qs⟩
end
mutual
theorem Dt.same (g : Same H H') : ∀ {x : V} {d : PyData}, Dt K H x d → Dt K H' x d
  | _, _, .non => .non
  | _, _, .bl b => .bl b
  | _, _, .int i => .int i
  | _, _, .str z => .str z
  | _, _, .lst h hs => .lst (g.seq h) (Dts.same g hs)
  | _, _, .tup h hs => .tup (SqT.same h g) (Dts.same g hs)
theorem Dts.same (g : Same H H') : ∀ {xs : List V} {ds : List PyData}, Dts K H xs ds → Dts K H' xs ds
  | _, _, .nil => .nil
  | _, _, .cons h hs => .cons (Dt.same g h) (Dts.same g hs)
end
def rEqD (K : PySem.W.Frag) : R2 := fun x y H Q => ∃ d, Dt K H x d ∧ Dt K H y d ∧ d.canLay0 = true ∧ d.depth ≤ 20 ∧ Q (.bl true) H
def rNeD (K : PySem.W.Frag) : R2 := fun x y H Q => ∃ d, Dt K H x d ∧ Dt K H y d ∧ d.canLay0 = true ∧ d.depth ≤ 20 ∧ Q (.bl false) H
theorem op_eqD (hu : X.A.units + 20 < cLine) : OpR X (compareOp .Eq) (rEqD X.K) := by
  intro pins s σ H x y v u Q I rx ry h
  obtain ⟨d, h1, h2, c, dp, q⟩ := h
  obtain ⟨as, r1⟩ := reads_of I h1 rx
  obtain ⟨bs, r2⟩ := reads_of I h2 ry
  refine SeqAt.compareEq_reads r1 r2 c c (by rw [Nat.min_self]; omega) ⟨.bl _, H, I, rfl, ?_⟩
  rw [SeqAt.eqv_refl d c]; exact q
theorem op_neD (hu : X.A.units + 20 < cLine) : OpR X (compareOp .NotEq) (rNeD X.K) := by
  intro pins s σ H x y v u Q I rx ry h
  obtain ⟨d, h1, h2, c, dp, q⟩ := h
  obtain ⟨as, r1⟩ := reads_of I h1 rx
  obtain ⟨bs, r2⟩ := reads_of I h2 ry
  refine SeqAt.compareNe_reads r1 r2 c c (by rw [Nat.min_self]; omega) ⟨.bl _, H, I, rfl, ?_⟩
  rw [SeqAt.eqv_refl d c]; exact q
theorem hu20 {A : Around} {k : Nat} (hr : Room k A) : A.units + 20 < cLine := Nat.lt_of_le_of_lt (Nat.add_le_add_left (by decide : 20 ≤ 64) _) hr.units
theorem r_eqD {x y : V} {d : PyData} (h1 : Dt K H x d) (h2 : Dt K H y d) (c : d.canLay0 = true) (dp : d.depth ≤ 20) (q : Q (.bl true) H) : rEqD K x y H Q := ⟨d, h1, h2, c, dp, q⟩
theorem r_neD {x y : V} {d : PyData} (h1 : Dt K H x d) (h2 : Dt K H y d) (c : d.canLay0 = true) (dp : d.depth ≤ 20) (q : Q (.bl false) H) : rNeD K x y H Q := ⟨d, h1, h2, c, dp, q⟩
end
end L2
set_option Elab.async false
set_option linter.all false
set_option maxRecDepth 100000
set_option maxHeartbeats 400000
namespace L2
open PySem PySem.Spec PyProof.Rows
section
variable {X : Cx} {H : Hp} {Q : VK} {K : PySem.W.Frag}
def rIndexT : V → List V → Hp → VK → Prop := fun x vs H Q => ∃ (l : Addr) (zs : List Str) (z : Str) (j : Nat), x = .ref l ∧ vs = [.str z] ∧ H l = some (.lst (zs.map V.str)) ∧ zs[j]? = some z ∧ (∀ m, m < j → zs[m]? ≠ some z) ∧ j < 1000 ∧ Q (.int j) H
end
def RsA (H : Hp) (v : V) (d : PyData) : Prop := (∃ z : Str, v = .str z ∧ d = .str z) ∨ ∃ (q : Addr) (z : Str), v = .ref q ∧ H q = some (.tup [.str z]) ∧ d = .tuple [.str z]
section
variable {H H' : Hp} {v : V} {d : PyData} {K : PySem.W.Frag}
theorem RsA.tag {q : Addr} {z : Str} (h : H q = some (.tup [.str z])) : RsA H (.ref q) (.tuple [.str z]) := .inr ⟨q, z, rfl, h, rfl⟩
theorem RsA.same (g : Same H H') (h : RsA H v d) : RsA H' v d := by
  rcases h with ⟨z, a, b⟩ | ⟨q, z, a, e, b⟩
  · exact .inl ⟨z, a, b⟩
  · exact .inr ⟨q, z, a, g _ _ e, b⟩
theorem RsA.dt (h : RsA H v d) : Dt K H v d := by
  rcases h with ⟨z, rfl, rfl⟩ | ⟨q, z, rfl, e, rfl⟩
  · exact .str z
  · exact .tup (SqT.of e) (.cons (.str z) .nil)
end
theorem ok_T {l : List Nat} (h : Asc l) : PyData.strOk (T l) = true := by
  unfold PyData.strOk
  show (l.toArray.all fun c => decide (c < 0x110000)) = true
  rw [Array.all_eq_true_iff_forall_mem]
  intro c hc
  have := h c (by simpa using hc)
  exact decide_eq_true (by omega)
section
variable {X : Cx} {pos : Pos}
def tPar3 (i j k : Nat) (ta : TA) : TS := fun D σ H => ta σ H fun vs H1 => ∃ v1 v2 v3, vs = [v1, v2, v3] ∧ D.nx (((σ.set k (some v3)).set j (some v2)).set i (some v1)) H1
def kPar3 (i j k : Nat) (D : Ends) (σ : St) (vs : List V) (H1 : Hp) : Prop := ∃ v1 v2 v3, vs = [v1, v2, v3] ∧ D.nx (((σ.set k (some v3)).set j (some v2)).set i (some v1)) H1
end
section
variable {X : Cx} {H : Hp} {Q : VK}
def rNInS : R2 := fun x y H Q => ∃ (c : Nat) (a : List Nat), x = .str (T [c]) ∧ y = .str (T a) ∧ Q (.bl (!decide (c ∈ a))) H
end
end L2
set_option Elab.async false
set_option linter.all false
set_option maxRecDepth 100000
set_option maxHeartbeats 400000
namespace L2
open PySem PySem.Spec PyProof.Rows
def low (b : Nat) : Nat → Nat → List Nat
  | 0, _ => []
  | p + 1, n => low b p (n / b) ++ [fc (n % b)]
def pz (b p r : Nat) : List Nat := List.replicate (p - (figs b r).length) 48 ++ figs b r
end L2
set_option Elab.async false
set_option linter.all false
set_option maxRecDepth 100000
set_option maxHeartbeats 400000
namespace L2
open PySem PySem.Spec PyProof.Rows
end L2
set_option Elab.async false
set_option linter.all false
set_option maxRecDepth 100000
set_option maxHeartbeats 1000000
namespace L2
open PySem PySem.Spec PyProof.Rows
def C2 (h : Heap) (e : Addr) : Prop := ∃ o vs, h.get? e = some o ∧ o.data = .fields vs ∧ vs[2]? = some .none
section
variable {M : Model} {A : Around} {E : Value → Shared → Prop} {s : Shared} {base : Heap} {env : Env} {outer : List Env} {L e : Addr} {Q : Unit → Shared → Prop}
end
end L2
set_option Elab.async false
set_option linter.all false
set_option maxRecDepth 100000
set_option maxHeartbeats 1000000
namespace L2
open PySem PySem.Spec PyProof.Rows
section
variable {prog : Program} {w : World} {A : Around} {E : Value → Shared → Prop} {s : Shared}
end
section
variable {prog : Program} {w : World} {A : Around} {E : Value → Shared → Prop} {env : Env}
variable {nm q : Str} {C N : Addr} {bs bm : List Value} {hdct : Bool} {sn : List Str} {sub : List Value} {ab : Bool} {col : Option Bool} {dd : Option Addr} {k0 k1 k2 k3 k5 : Option Value} {newId : String}
end
structure MadeR (h h' : Heap) (e C : Addr) : Prop where
  keeps : ∀ b o, h.get? b = some o → h'.get? b = some o
  new : h.get? e = none
  there : ∃ oe vs a0, h'.get? e = some oe ∧ oe.cls = .ref C ∧ oe.data = .fields vs ∧ vs[1]? = some .none ∧ vs[0]? = some a0
section
variable {prog : Program} {w : World} {A : Around} {E : Value → Shared → Prop} {env : Env}
variable {nm q : Str} {C N : Addr} {bs bm bmB : List Value} {hdct : Bool} {sn : List Str} {sub : List Value} {ab : Bool} {col : Option Bool} {dd : Option Addr} {k0 k1 k2 k3 k5 : Option Value} {B newId initId : String}
end
end L2
set_option Elab.async false
set_option linter.all false
set_option maxRecDepth 100000
set_option maxHeartbeats 1000000
namespace L2
open PySem PySem.Spec PyProof.Rows
def CXE2 (P : Program) (w : World) : CXT := fun outer H s E e s' => ∃ (x C : Addr) (a0 : Value) (H' : Hp) (B : Heap), e = .ref x ∧ s'.os = s.os ∧ AllBare s'.gens ∧ Heap.FlyingW B outer x (.ref C) a0 s'.heap ∧ C2 s'.heap x ∧
  (∀ h', B.StaysIn h' → s'.heap.UpToSlots h' → Un (frs outer) [] H H' s.heap h' ∧ HOk P w H' h') ∧ s.heap.get? x = none ∧ H' x = none ∧ E (.ref C) none H'
section
variable {P : Program} {w : World} {K : PySem.W.Frag} {mg : Str → Option Value} {base : Heap} {N : List Str} {qual : Str} {scope : Scope} {f : Addr} {cd : Value} {A : Around} {outer : List Env} {s : Shared} {H : Hp} {E : XK} {CX : CXT}
end
def TakesR (X : Cx) (E : XK) : Prop := ∀ (pins : List (Addr × Obj)) (σ : St) (H : Hp) (s : Shared) (h' : Heap) (x C : Addr) (tk : Nat), Inv X pins σ H s → MadeR s.heap h' x C → E (.ref C) none H → X.xe (.ref x) { s with heap := h', toks := tk }
def HasX2 (P : Program) (w : World) (K : PySem.W.Frag) (mg : Str → Option Value) (base : Heap) (x : Str) (k : Nat) (ps : List Str) (sp : Sp) : Prop :=
  ∃ (f : Addr) (fd : FuncData), FnOk P w K mg base (CXE2 P w) k f fd ps sp ∧ mg x = some (.ref f) ∧ PySem.W.keepIn K (.ref f) = true ∧ Binds K fd ps []
def XP2 (X : Cx) (pins : List (Addr × Obj)) (σ : St) (E : XK) (e : Value) (s' : Shared) : Prop := ∃ H1 s1, Inv X pins σ H1 s1 ∧ CXE2 X.prog X.w X.stack H1 s1 E e s'
def Cx.tr2 (X : Cx) (pins : List (Addr × Obj)) (σc : St) (E : XK) : Cx := { X with pn := X.pn ++ pins, xe := XP2 X pins σc E }
section
variable {X : Cx} {pins pins0 : List (Addr × Obj)} {σ σc : St} {H : Hp} {s : Shared} {E : XK}
theorem Cx.Ok.tr2 (ok : X.Ok) : (X.tr2 pins σc E).Ok := ⟨ok.mod, ok.kind, ok.glob, ok.blt, ok.above, ok.inj, ok.has, ok.cab, ok.hd, ok.frames, ok.stk, ok.exf, ok.bs, ok.bsz, ok.noex, ok.exfs, ok.funs, ok.frf⟩
theorem Inv.tr2 (I : Inv X pins σ H s) : Inv (X.tr2 pins σc E) [] σ H s := ⟨I.ok.tr2, I.os, I.bare, I.base, I.loc, I.cell, I.free, I.freeC, fun p hp => I.pin p (by simpa [Cx.tr2] using hp), I.hok, I.len⟩
end
section
variable {X : Cx} {pins0 : List (Addr × Obj)} {σc : St} {k n : Nat} {C : Addr} {ps : List Str} {sp : Sp} {E : XK} {x m : Str} {p np pos apos : Pos} {e o : Expr} {es : List Expr} {ta : TE} {t : TA}
end
def tTryR (K : PySem.W.Frag) (C1 C2 CR : Addr) (E : XK) (tb : St → XK → TS) : TS := fun D σ H => ∃ σc, tb σc (fun cls _ H2 => ∃ C, cls = .ref C ∧ PySem.W.exmAny K (.ref C) [.ref C1, .ref C2] = some true ∧ E (.ref CR) none H2) D σ H
end L2
set_option Elab.async false
set_option linter.all false
set_option maxRecDepth 100000
set_option maxHeartbeats 1000000
namespace L2
open PySem PySem.Spec PyProof.Rows
theorem snoc_ind {P : List Nat → Prop} (h0 : P []) (hs : ∀ l c, P l → P (l ++ [c])) (l : List Nat) : P l := by
  have : ∀ n (l : List Nat), l.length = n → P l := fun n => by
    induction n with
    | zero => intro l h; rw [List.length_eq_zero_iff.mp h]; exact h0
    | succ n ih =>
      intro l h
      have ne : l ≠ [] := fun z => by rw [z] at h; cases h
      rw [← List.dropLast_concat_getLast ne]
      exact hs _ _ (ih _ (by rw [List.length_dropLast]; omega))
  exact this _ l rfl
theorem FigB.left {b : Int} {l m : List Nat} (h : FigB b (l ++ m)) : FigB b l := fun c hc => h c (List.mem_append_left _ hc)
theorem FigB.right {b : Int} {l m : List Nat} (h : FigB b (l ++ m)) : FigB b m := fun c hc => h c (List.mem_append_right _ hc)
def wpart (p : Nat) (t : List Nat) : List Nat := if p = 0 then t else t.take (t.length - p - 1)
def rpart (p : Nat) (t : List Nat) : List Nat := if p = 0 then [] else t.drop (t.length - p)
def WE (p pt : Nat) (t : List Nat) : Prop := p = 0 ∨ (p + 1 ≤ t.length ∧ t.getD (t.length - p - 1) 0 = pt)
def NZ (u : List Nat) : Prop := ¬ (1 < u.length ∧ u.getD 0 0 = 48)
def IsB (b : Int) (p pt z m : Nat) (t : List Nat) : Prop := WE p pt t ∧ GG z m (wpart p t) ∧ FigB b (ug z (wpart p t) ++ rpart p t) ∧ NZ (ug z (wpart p t))
def bval (b : Int) (p z : Nat) (t : List Nat) : Int := val b (ug z (wpart p t) ++ rpart p t)
theorem div_succ {n z : Nat} : (n + 1) / (z + 1) = n / (z + 1) + (if n % (z + 1) = z then 1 else 0) := by
  have d := Nat.div_add_mod n (z + 1)
  have lt := Nat.mod_lt n (show 0 < z + 1 by omega)
  generalize n / (z + 1) = q at *
  generalize n % (z + 1) = r at *
  subst d
  split
  · rename_i e
    rw [e, show (z + 1) * q + z + 1 = (z + 1) * (q + 1) by rw [Nat.mul_add, Nat.mul_one]; omega, Nat.mul_div_cancel_left _ (by omega)]
  · rw [Nat.add_assoc, Nat.mul_add_div (by omega), Nat.div_eq_of_lt (by omega)]
theorem UJ_len {z : Nat} (hz : 0 < z) (c : List Nat) : (UJ z c).length + c.length / (z + 1) = c.length := by
  refine snoc_ind (P := fun c => (UJ z c).length + c.length / (z + 1) = c.length) (by rw [UJ_nil]; simp) (fun l x ih => ?_) c
  rw [UJ_snoc hz l.length l (Nat.le_refl _), List.length_append, List.length_append, List.length_singleton, div_succ]
  split
  · show _ + 0 + _ = _; omega
  · show _ + 1 + _ = _; omega
theorem ug_count {z : Nat} (hz : 0 < z) (t : List Nat) : (ug z t).length + t.length / (z + 1) = t.length := by
  have := UJ_len hz t.reverse
  unfold ug
  rw [if_neg (by omega), List.length_reverse]
  rw [List.length_reverse] at this
  exact this
theorem GG.first {z m : Nat} {t : List Nat} (h : GG z m t) (hz : 0 < z) : t.length % (z + 1) ≠ 0 := fun e => by
  have um := ug_count hz t
  have gl := h.len
  have h1 := h.1
  rw [if_pos hz] at gl
  have d := Nat.div_add_mod t.length (z + 1)
  rw [e, Nat.add_zero] at d
  have q1 : ((ug z t).length - 1) / z = t.length / (z + 1) := by omega
  have e1 : (ug z t).length = z * (t.length / (z + 1)) := by
    rw [Nat.add_mul, Nat.one_mul] at d; omega
  have q2 : ((ug z t).length - 1) / z < t.length / (z + 1) := by
    rw [Nat.div_lt_iff_lt_mul hz, Nat.mul_comm]; omega
  omega
end L2
set_option Elab.async false
set_option linter.all false
set_option maxRecDepth 100000
set_option maxHeartbeats 1000000
namespace L2
open PySem PySem.Spec PyProof.Rows
structure ExcB (K : PySem.W.Frag) (C : Addr) : Prop where
  h1 : PySem.W.findIn K (.ref C) "__getattribute__" = some (some (.builtin "BaseException.__getattribute__"))
  h2 : PySem.W.findIn K (.ref C) "__getattr__" = some none
  hb : PySem.W.mroIn K C (.type "BaseException") = some true
  hd : PySem.W.hasDictIn K C = true
  ha : PySem.W.findIn K (.ref C) "__class__" = some (some (.builtin "object.__class__"))
  hn : PySem.W.specialIn K (.builtin "object.__class__") "__get__" = some (some (.builtin "getset_descriptor.__get__"))
  ht : PySem.W.takesIn K (.builtin "object.__class__") = some true
  hm : PySem.W.mroIn K C (.type "object") = some true
theorem Exc.b {K : PySem.W.Frag} {C : Addr} (c : Exc K C) : ExcB K C := ⟨c.h1, c.h2, c.hb, c.hd, c.ha, c.hn, c.ht, c.hm⟩
section
open PySem.W PySem.Calls Builtin Builtin.ObjectAttr Builtin.Getset_descriptor
variable {K : Frag} {x C : Addr} {M : Model} {h : Heap} {prog : Program} {w : World} {A : Around} {E : Value → Shared → Prop} {s : Shared}
theorem eb_get {tp : Value} {R : Result → Shared → Prop} (X : K.In s.heap) (e : ExAt x C s.heap) (c : ExcB K C) (q : R (.ok (.ret (.ref C))) s) :
    codeAny (model prog w) A (.call (.builtin "getset_descriptor.__get__") ⟨[.builtin "object.__class__", .ref x, tp], []⟩) R s := by
  obtain ⟨hp, gn, dw, tk, os⟩ := s
  have T0 := e.ty (M := model prog w)
  have T1 := looks_mroIn (M := model prog w) X c.hm
  refine codeAny_call_builtin KF.slot_gs.plain KF.entry_gs
    (KF.slot_gs.check _ _ _ _ _ _ _ _ KF.type_class (KF.args_gs _ _ _) ?_)
  unfold Builtin.«getset_descriptor.__get__»
  unfold descrGet
  rw [dga_obj]
  refine wpAny_bind (wpAny_pure ?_)
  unfold descrGetter descrCheckInstance
  unfold descrNameAndClass isInstance
  simp only [KF.owner_class]
  repeat lk
  refine ⟨Code.quiet_builtin _ (by decide +kernel),
    codeAny_builtin KF.entry_class ?_⟩
  unfold Builtin.«object.__class__»
  unfold shownTypeOf
  repeat lk
  exact q
theorem eb_entry {tk : Tok} {P : Value → Shared → Prop} (X : K.In s.heap) (e : ExAt x C s.heap) (c : ExcB K C) (q : P (.ref C) s) :
    wpAny (model prog w) A (Builtin.«object.__getattribute__» ⟨[.ref x, .str "__class__" tk], []⟩) (fun fin s' => match fin with | .done (.ret v) => P v s' | _ => False) E s := by
  obtain ⟨hp, gn, dw, t', os⟩ := s
  have T0 := e.ty (M := model prog w)
  have T2 := ex_find (M := model prog w) (x := x) X c.ha c.hn c.ht
  unfold Builtin.«object.__getattribute__»
  refine wpAny_bind (wpAny_pure (wpAny_bind (wpAny_pure (wpAny_bind (T0.at (wpAny_bind (T2.at ?_)))))))
  show wpAny _ _ (holding [Value.builtin "object.__class__"] (call (.builtin "getset_descriptor.__get__") [.builtin "object.__class__", .ref x, .ref C]) >>= ret) _ _ _
  refine wpAny_bind (wpAny_holding (wpAny_call (eb_get X e c ?_)))
  exact wpAny_pure q
theorem eb_call {z : Str} {tk : Tok} {v : Value} {R : Result → Shared → Prop} (X : K.In s.heap) (e : ExAt x C s.heap) (c : ExcB K C) (q : R (.ok (.ret v)) s)
    (go : ∀ A', wpAny (model prog w) A' (Builtin.«object.__getattribute__» ⟨[.ref x, .str z tk], []⟩) (fun fin s' => match fin with | .done (.ret u) => u = v ∧ s' = s | _ => False) (fun _ _ => False) s) :
    codeAny (model prog w) A (.call (.builtin "BaseException.__getattribute__") ⟨[.ref x, .str z tk], []⟩) R s := by
  refine codeAny_call_builtin PySem.F.attrBase_ValueError.ga.plain PySem.F.entry_bexc_ga ?_
  have k0 : builtinKind "BaseException.__getattribute__" = some .slot := by decide +kernel
  have k1 : splitId "BaseException.__getattribute__" = some ("BaseException", "__getattribute__") := by decide +kernel
  have k2 := PySem.F.args_bexc_ga (.ref x) (.str z tk)
  have T0 := e.ty (M := model prog w)
  have T1 := looks_mroIn (M := model prog w) X c.hb
  have T4 : Looks (model prog w) s.heap (isInstance (.ref x) (.type "BaseException")) true := T0.andThen T1
  simp only [checkBuiltinCall, k0, k1]
  refine wpAny_bind (T4.here ?_)
  rw [if_neg (by decide)]
  unfold argsOk at k2
  generalize Manifest.signature? "BaseException.__getattribute__" = sg at k2 ⊢
  have go' := wpAny_mono (E' := fun e s' => R (.error e) s') (go A.in1) (Q' := fun fin s' => match fin with | .done f => R (.ok f) s' | .again c' => c'.quiet = true ∧ codeAny (model prog w) A c' R s') (fun fin s' z => by
    rcases fin with (_ | _ | _ | _) | _ <;> first | exact z.elim | (obtain ⟨rfl, rfl⟩ := z; exact q)) fun _ _ z => z.elim
  cases sg with
  | none => exact wpAny_pure go'
  | some sig =>
    dsimp only at k2 ⊢
    rw [k2]
    exact wpAny_pure go'
theorem eb_class {Q : Option Value → Shared → Prop} (X : K.In s.heap) (e : ExAt x C s.heap) (c : ExcB K C) (q : Q (some (.ref C)) { s with toks := s.toks + 1 }) : wpAny (model prog w) A (getAttr? (.ref x) "__class__") Q E s := by
  obtain ⟨hp, gn, dw, tk, os⟩ := s
  have T0 := e.ty (M := model prog w)
  have T1 := looks_findIn (M := model prog w) X c.h1
  have T3 := looks_findIn (M := model prog w) X c.h2
  have B0 := PySem.F.attrBase_ValueError.ga.bind (.ref x)
  unfold getAttr? getAttrBy?
  unfold getAttrBy
  refine wpAny_bind (wpAny_mkText (wpAny_bind (wpAny_attempt
    (wpAny_holding (wpAny_bind (T0.at (wpAny_bind (T1.at ?_))))))))
  show wpAny _ _ (getAttrByItsOwn (.ref x) (.str "__class__" tk) (.ref C) (.builtin "BaseException.__getattribute__") false false) _ _ _
  unfold getAttrByItsOwn
  refine wpAny_bind ((show Looks (model prog w) hp (hookBefore (.ref C)) none from T3).at ?_)
  unfold callGetattribute
  show wpAny _ _ (do match ← (holding [] (boundAndCalled (.builtin "BaseException.__getattribute__") (.ref x) (.str "__class__" tk))).attempt with | .ok v => handedOut v | .error e' => getattributeRaised _ _ _ e' _ _ _) _ _ _
  unfold boundAndCalled
  rw [B0]
  refine wpAny_bind (wpAny_attempt (wpAny_holding (wpAny_bind (wpAny_pure (wpAny_call (eb_call X e c ?_ fun A' => eb_entry (P := fun u s' => u = .ref C ∧ s' = _) X e c ⟨rfl, rfl⟩))))))
  exact wpAny_mono (handed_on rfl q) (fun v s'' hv => wpAny_pure hv) fun _ _ z => z
theorem eb_kit (c : ExcB K C) : KitX K (.ref x) (.ref C) (ExAt x C) where
  ty := fun _ _ _ e => e.ty
  it := fun _ _ X _ => by
    obtain ⟨cd, hc, _⟩ := any_some c.hd
    unfold clsIn at hc
    split at hc
    · rename_i ho
      intro A' Q' E' s' k q
      unfold isType loadHead
      refine wpAny_bind (wpAny_loadPart (k _ _ (X _ _ ho)) ?_)
      exact wpAny_pure q
    · cases hc
  ne := fun h tp dd its n sl X htp => by
    obtain ⟨cd, hc, _⟩ := any_some c.hd
    refine Bool.eq_false_iff.mpr fun q => ?_
    have z : C = tp := Value.ref.inj (beq_iff_eq.mp q)
    subst z
    unfold clsIn at hc
    split at hc
    · rename_i ho
      cases (X _ _ ho).symm.trans htp
    · cases hc
  ca := fun X e k => eb_class X e c k
end
def ExN (x C : Addr) (h : Heap) : Prop := ∃ v0 v1 v2 v3 v4 v5 : Value, h.get? x = some { cls := .ref C, data := .fields #[v0, v1, v2, v3, v4, v5] }
def ExD (x C dx : Addr) (h : Heap) : Prop := dx ≠ x ∧ ∃ v0 v1 v2 v3 v4 v5 : Value, h.get? x = some { cls := .ref C, dict := some dx, data := .fields #[v0, v1, v2, v3, v4, v5] }
def XD (dx : Addr) (fs : List (Str × V)) (h : Heap) : Prop := ∃ mA, h.Ns1 dx mA ∧ (∀ f, RelO (fs.lookup f) (mA f)) ∧ PySem.Within mA (fs.map (·.1))
def IsEx (H : Hp) (x C : Addr) : Prop := ∃ φ : Heap → Prop, H x = some (.ext φ) ∧ ∀ h, φ h → ExAt x C h
theorem ExN.at {x C : Addr} {h : Heap} (e : ExN x C h) : ExAt x C h := let ⟨_, _, _, _, _, _, z⟩ := e; ⟨_, z, rfl, _, rfl⟩
theorem ExD.at {x C dx : Addr} {h : Heap} (e : ExD x C dx h) : ExAt x C h := let ⟨_, _, _, _, _, _, _, z⟩ := e; ⟨_, z, rfl, _, rfl⟩
theorem IsEx.n {H : Hp} {x C : Addr} (e : H x = some (.ext (ExN x C))) : IsEx H x C := ⟨_, e, fun _ z => z.at⟩
theorem IsEx.d {H : Hp} {x C dx : Addr} (e : H x = some (.ext (ExD x C dx))) : IsEx H x C := ⟨_, e, fun _ z => z.at⟩
theorem IsEx.same {H H' : Hp} {x C : Addr} (g : Same H H') (e : IsEx H x C) : IsEx H' x C := let ⟨φ, a, b⟩ := e; ⟨φ, g _ _ a, b⟩
def rIsiE (K : PySem.W.Frag) : List V → Hp → VK → Prop := fun xs H Q => ∃ x C c b, xs = [.ref x, c] ∧ IsEx H x C ∧ ExcB K C ∧ ((∃ T, c = .ty T) ∨ ∃ D, c = .ref D) ∧ PySem.W.kitOne K (.ref C) (clsV c) = some b ∧ Q (.bl b) H
section
variable {X : Cx} {H : Hp} {Q : VK} {K : PySem.W.Frag}
theorem call_isiE : CallR X (.builtin "isinstance") (rIsiE X.K) := by
  intro pins s σ H xs us Q I r h
  obtain ⟨x, C, c, b, rfl, ⟨φ, hx, hφ⟩, ex, hc, e, q⟩ := h
  obtain ⟨v, w, rfl, rx, rw'⟩ := vals2 r
  cases rx
  have : w = clsV c := by
    rcases hc with ⟨T, rfl⟩ | ⟨D, rfl⟩
    · exact rw'
    · exact rw'
  subst this
  exact PySem.W.kia_one (eb_kit ex) I.kIn (hφ _ (I.hok x _ hx).1) e (fun z => nomatch z) fun tk => ⟨.bl b, H, I.tok _, rfl, q⟩
theorem r_isiE {x C : Addr} {c : V} {b : Bool} (hx : IsEx H x C) (ex : ExcB K C) (hc : (∃ T, c = .ty T) ∨ ∃ D, c = .ref D) (e : PySem.W.kitOne K (.ref C) (clsV c) = some b) (q : Q (.bl b) H) : rIsiE K [.ref x, c] H Q := ⟨x, C, c, b, rfl, hx, ex, hc, e, q⟩
end
theorem Inv.laidN {X : Cx} {pins : List (Addr × Obj)} {σ : St} {H : Hp} {s : Shared} {h' : Heap} {a : Addr} {o : HO} {t' : Nat} (I : Inv X pins σ H s) (k : ∀ b u, s.heap.get? b = some u → h'.get? b = some u) (hn : s.heap.get? a = none) (new : ObjOk X.prog X.w (upd H a o) h' a o) :
    H a = none ∧ Inv X pins σ (upd H a o) { s with heap := h', toks := t' } := by
  have fr : H a = none := by
    cases z : H a with
    | none => rfl
    | some u =>
      obtain ⟨ob, e⟩ := (I.hok a u z).is
      rw [hn] at e; cases e
  refine ⟨fr, I.un ⟨fun b u q _ _ _ => k b u q, fun b u q _ _ _ => ⟨u.slots, k b u q⟩, fun b u q n _ => ?_, fun b u q _ => ⟨u, k b u q⟩, fun b xs q => by rw [upd_ne (ne_of_none q fr)]; exact q, fun b u xs q => by rw [upd_ne (ne_of_none q fr)]; exact q, fun b ps q => ⟨#[], by rw [upd_ne (ne_of_none q fr), q]; simp⟩⟩ fun b u e => ?_⟩
  · have nb : b ≠ a := fun z => by subst z; rw [hn] at q; cases q
    rw [upd_ne nb]; exact n
  · by_cases hb : b = a
    · subst hb; rw [upd_same] at e; cases e; exact new
    · rw [upd_ne hb] at e
      exact (I.hok b u e).stay (fun c v _ q => k c v q) (fun c q => by rw [upd_ne (ne_of_none q fr)]; exact q) fun c xs q => by rw [upd_ne (ne_of_none q fr)]; exact q
theorem ext_new {P : Program} {w : World} {H : Hp} {h : Heap} {x : Addr} {φ : Heap → Prop} (e : φ h) (t : ∃ o, h.get? x = some o) (k : ∀ h1 h2 : Heap, φ h1 → (∀ o, h1.get? x = some o → h2.get? x = some o) → φ h2) : ObjOk P w H h x (.ext φ) := ⟨e, t, k⟩
theorem ExN.keep {x C : Addr} : ∀ h1 h2 : Heap, ExN x C h1 → (∀ o, h1.get? x = some o → h2.get? x = some o) → ExN x C h2 := fun _ _ ⟨_, _, _, _, _, _, z⟩ k => ⟨_, _, _, _, _, _, k _ z⟩
theorem ExD.keep {x C dx : Addr} : ∀ h1 h2 : Heap, ExD x C dx h1 → (∀ o, h1.get? x = some o → h2.get? x = some o) → ExD x C dx h2 := fun _ _ ⟨n, _, _, _, _, _, _, z⟩ k => ⟨n, _, _, _, _, _, _, k _ z⟩
theorem XD.keep {dx : Addr} {fs : List (Str × V)} : ∀ h1 h2 : Heap, XD dx fs h1 → (∀ o, h1.get? dx = some o → h2.get? dx = some o) → XD dx fs h2 := fun _ _ ⟨mA, a, b, c⟩ k => ⟨mA, a.at k, b, c⟩
def tExc (C : Addr) (t : TA) : TE := fun σ H Q => t σ H fun vs H1 => vs.length ≤ sizeLine ∧ ∀ y, H1 y = none → Q (.ref y) (upd H1 y (.ext (ExN y C)))
section
variable {X : Cx} {x : Str} {C : Addr} {p pos : Pos} {e : Expr} {es : List Expr} {t : TA}
theorem made_exc {pins : List (Addr × Obj)} {σ : St} {H : Hp} {s : Shared} {Q : VK} {us : List Value} {vs : List V} (c : Exc X.K C) (I : Inv X pins σ H s) (r : Vals vs us) (hl : vs.length ≤ sizeLine) (q : ∀ y, H y = none → Q (.ref y) (upd H y (.ext (ExN y C)))) :
    wpAny (model X.prog X.w) X.A (call (.ref C) us) (EP X pins σ Q) X.xe s := by
  obtain ⟨tl, N, nm, q', bs, hdct, sn, sub, ab, col, dd, k0, k1, k2, k3, k5, mN, hC, hN, hni, T⟩ := exc_obj I.kIn c
  refine wpAny_call_exc_subT (hrest := by rw [← r.length]; exact hl) PySem.F.excBase_ValueError T hC hN hni fun h' y hm => ?_
  obtain ⟨t0, e1, e2, e3⟩ := hm.there
  obtain ⟨fr, I'⟩ := I.laidN (a := y) (o := .ext (ExN y C)) (t' := s.toks) hm.keeps hm.new (ext_new ⟨_, _, _, _, _, _, e1⟩ ⟨_, e1⟩ ExN.keep)
  exact ⟨.ref y, _, I', rfl, q y fr⟩
theorem pe_exc (c : Exc X.K C) (kp : PySem.W.keepIn X.K (.ref C) = true) (hg : Gl X x) (hm : X.mg x = some (.ref C)) (ha : PA X (e :: es) t)
    (hdb : (x == ("__debug__" : Str)) = false := by decide) (he : starEach (e :: es) X.env = (false, eval e X.env) :: starEach es X.env := by rfl) (hpl : (backTo pos (starEach es X.env)).any (·.1) = false := by rfl) :
    PE X (.Call (.Name x p) (e :: es) [] pos) (tExc C t) := by
  intro pins s σ H Q I h
  refine wpAny_Call_Name_kw (ld_glob I hg hm ?_ hdb)
  exact PySem.W.callWith_K (h₀ := X.base) I.ok.mod.kin kp (thn (ha pos pins s σ H _ I h) fun us s1 ⟨vs, H1, I1, r, hl, q⟩ => ⟨I1.kIn, made_exc c I1 r hl q⟩) he hpl
theorem pe_exc0 (c : Exc X.K C) (kp : PySem.W.keepIn X.K (.ref C) = true) (hg : Gl X x) (hm : X.mg x = some (.ref C)) (hdb : (x == ("__debug__" : Str)) = false := by decide) : PE X (.Call (.Name x p) [] [] pos) (tExc C tNil) := by
  intro pins s σ H Q I h
  refine wpAny_Call_Name_kw (ld_glob I hg hm ?_ hdb)
  exact PySem.W.callWith_K0 I.kIn kp (made_exc (us := []) c I .nil h.1 h.2)
end
end L2
set_option Elab.async false
set_option linter.all false
set_option maxRecDepth 100000
set_option maxHeartbeats 1000000
namespace L2
open PySem PySem.Spec PyProof.Rows
def excInI (K : PySem.W.Frag) (C f : Addr) : Bool := match K.lookup C with
  | some ⟨.type "type", _, .cls cd, sl⟩ => (match cd.mro, sl.toList with
    | .ref C' :: bm, [_, _, _, _, some (.builtin n), _] => C' == C && n == "ValueError.__new__" && !cd.hasDel && PySem.W.tailIn K VEB bm && PySem.W.nsOkIn K cd.ns && PySem.W.nsIn K cd.ns "__init__" == some (some (.ref f))
    | _, _ => false)
  | _ => false
structure ExcI (K : PySem.W.Frag) (C f : Addr) : Prop where
  ex : excInI K C f = true
  fn : PySem.W.isFn K (.ref f) = true
  kp : PySem.W.keepIn K (.ref C) = true
theorem ns_some_of {K : PySem.W.Frag} {h : Heap} {N : Addr} {mg : Str → Option Value} {n : Str} {v : Value} (X : K.In h) (G : h.Ns N mg) (e : PySem.W.nsIn K N n = some (some v)) : mg n = some v := by
  obtain ⟨o, es, ep, ho, hd, _, hf⟩ := G
  unfold PySem.W.nsIn at e
  split at e
  · rename_i c d es' n' sl q
    have z := (X _ _ q).symm.trans ho
    cases z
    cases hd
    split at e
    · rename_i en he
      cases e
      rw [← hf]
      unfold nsFind findBy
      rw [← Array.find?_toList, he]
      rfl
    · split at e <;> cases e
  · cases e
theorem exc_objI {K : PySem.W.Frag} {h : Heap} {C f : Addr} (X : K.In h) (c : excInI K C f = true) : ∃ tl N nm q bs hdct sn sub ab col dd k0 k1 k2 k3 k5 mN,
    h.get? C = some (excClassObj nm q C N bs tl hdct sn sub ab col dd k0 k1 k2 k3 k5 "ValueError.__new__") ∧ h.Ns N mN ∧ mN "__init__" = some (.ref f) ∧ OwnTail h VEB tl := by
  have q := c
  unfold excInI at q
  split at q
  · rename_i dd cd sl ho
    split at q
    · rename_i C' bm k0 k1 k2 k3 n k5 hm hs
      simp only [Bool.and_eq_true, beq_iff_eq, Bool.not_eq_true'] at q
      obtain ⟨⟨⟨⟨⟨z1, z2⟩, hdel⟩, ht⟩, hok⟩, hi⟩ := q
      subst z1 z2
      obtain ⟨nm, bs, mro, ns, qn, hdc, sn, sub, ab, col, del⟩ := cd
      dsimp only at hm hdel hok hi
      subst hm hdel
      have hsl : sl = #[k0, k1, k2, k3, some (.builtin "ValueError.__new__"), k5] := by
        cases sl with
        | mk l => simp only at hs; rw [hs]
      subst hsl
      have G : h.Ns ns (h.nsMap ns) := .of_isNs (PySem.W.isNs_of_in X hok)
      exact ⟨bm, ns, nm, qn, bs, hdc, sn, sub, ab, col, dd, k0, k1, k2, k3, k5, h.nsMap ns, X _ _ ho, G, ns_some_of X G hi, PySem.W.tail_of_in X ht⟩
    · cases q
  · cases q
section
variable {prog : Program} {w : World} {A : Around} {E : Value → Shared → Prop} {h : Heap} {g : Array GenState} {d : Drawn} {t : Nat} {os : OsState}
variable {nm q : Str} {C N : Addr} {bs bm bmB : List Value} {hdct : Bool} {sn : List Str} {sub : List Value} {ab : Bool} {col : Option Bool} {dd : Option Addr} {k0 k1 k2 k3 k5 : Option Value} {B newId initId : String}
theorem tcall_initT (F : ExcBaseFacts B newId initId bmB) (T : OwnTail h bmB bm) {mN : Str → Option Value} {us : List Value} {f : Addr} {of : Obj} {Q : Fin → Shared → Prop}
    (hC : h.get? C = some (excClassObj nm q C N bs bm hdct sn sub ab col dd k0 k1 k2 k3 k5 newId)) (hN : h.Ns N mN) (hi : mN "__init__" = some (.ref f)) (hf : h.get? f = some of) (hfc : of.cls = .type "function")
    (go : ∀ h' y, Heap.MadeExcOf h h' y (.ref C) us → wpAny (model prog w) A (call (.ref f) (.ref y :: us)) (fun r s' => r = .none ∧ Q (.done (.ret (.ref y))) s') E ⟨h', g, d, t, os⟩) (hz : us.length ≤ sizeLine) :
    wpAny (model prog w) A (Builtin.«type.__call__» ⟨.ref C :: us, []⟩) Q E ⟨h, g, d, t, os⟩ := by
  repeat (first | with_reducible refine wpAny_loadPart_at hC ?_ | with_reducible refine wpAny_madeBy_exc hC ?_ | wp_step)
  refine codeAny_call_builtin_code (Code.quiet_builtin _ F.quiet) (wpAny_check_new_subT F T hC (codeAny_exc_new_subT F T hC ?_ hz))
  show wpAny _ _ _ _ _ _
  generalize hb1 : ({ cls := .type "tuple", data := .seq us.toArray } : Obj) = b1
  generalize hb2 : ({ cls := .ref C, data := .fields #[.ref h.objs.size, .none, .none, .none, .bool false, .none] } : Obj) = b2
  have kp : ∀ b o, h.get? b = some o → ((h.push b1).push b2).get? b = some o := fun b o e => Heap.get?_push_of_some _ (Heap.get?_push_of_some _ e)
  have hC' := kp _ _ hC
  have hf' := kp _ _ hf
  have hN' := hN.keeps kp
  have hy : ((h.push b1).push b2).get? (h.objs.size + 1) = some b2 := by
    subst hb1 hb2; heap_get
  have hcC : (Value.ref C :: bm).contains (.ref C) = true := by simp
  have T' := T.keeps kp
  have hy2 : b2.cls = .ref C := by rw [← hb2]
  unfold isInstance
  repeat (first | (with_reducible refine wpAny_loadPart_at hy ?_; rw [hy2]) | (with_reducible refine wpAny_isSubtype_exc hC' ?_; rw [hcC]) | wp_step)
  show wpAny _ _ (typeLookup (.ref C) _) _ _ _
  refine wpAny_typeLookup_tail hC' hN' T' F.mroIs F.init.lookup ?_
  rw [hi]
  refine wpAny_holding (wpAny_bind ?_)
  unfold bindSpecial
  refine wpAny_bind (wpAny_typeOf (T := "function") ⟨_, hf', hfc⟩ ?_)
  rw [if_pos (by decide)]
  have made : Heap.MadeExcOf h ((h.push b1).push b2) (h.objs.size + 1) (.ref C) us := by
    refine ⟨kp, Heap.get?_none_of_le (Nat.le_succ _), h.objs.size, by rw [hy, ← hb2], Heap.get?_none_of_le (Nat.le_refl _), ?_⟩
    subst hb1
    exact Heap.get?_push_of_some _ (Heap.get?_push_at rfl rfl)
  refine wpAny_pure (wpAny_bind (wpAny_mono (go _ _ made) (fun r s' hr => ?_) fun _ _ z => z))
  obtain ⟨rfl, hQ⟩ := hr
  wp_walk
  exact hQ
theorem call_initT (F : ExcBaseFacts B newId initId bmB) (T : OwnTail h bmB bm) {mN : Str → Option Value} {us : List Value} {f : Addr} {of : Obj} {Q : Value → Shared → Prop}
    (hC : h.get? C = some (excClassObj nm q C N bs bm hdct sn sub ab col dd k0 k1 k2 k3 k5 newId)) (hN : h.Ns N mN) (hi : mN "__init__" = some (.ref f)) (hf : h.get? f = some of) (hfc : of.cls = .type "function")
    (go : ∀ h' y, Heap.MadeExcOf h h' y (.ref C) us → wpAny (model prog w) (A.under (.builtin "type.__call__" ⟨.ref C :: us, []⟩)) (call (.ref f) (.ref y :: us)) (fun r s' => r = .none ∧ Q (.ref y) s') E ⟨h', g, d, t, os⟩) (hz : us.length ≤ sizeLine) :
    wpAny (model prog w) A (call (.ref C) us) Q E ⟨h, g, d, t, os⟩ := by
  have f1 := tc_lookup
  have f2 := tc_bind (.ref C)
  have ty : (⟨h, g, d, t, os⟩ : Shared).TypeIs (.ref C) "type" := ⟨_, hC, rfl⟩
  refine wpAny_call (codeAny_of_tree (show wpAny _ _ (callAny (.ref C) _) _ _ _ from ?_))
  repeat (any_goals (first | assumption | with_reducible refine wpAny_loadPart_at hC ?_ | wp_step))
  exact ⟨rfl, codeAny_call_builtin_at (Code.quiet_builtin _ (by decide +kernel)) entry_typeCall (wpAny_check_type_call_sub hC (tcall_initT F T hC hN hi hf hfc (fun h' y hm => go h' y hm) hz))⟩
end
def tExcI (C : Addr) (sp : Sp) (dvs : List V) (E : XK) (t : TA) : TE := fun σ H Q => t σ H fun vs H1 => vs.length ≤ 1000 ∧ ∀ y, H1 y = none → sp (.ref y :: (vs ++ dvs)) (upd H1 y (.ext (ExN y C))) (fun v H2 => v = .non ∧ Q (.ref y) H2) E
section
variable {X : Cx} {CX : CXT} {k n : Nat} {f C : Addr} {fd : FuncData} {ps : List Str} {sp : Sp} {E : XK} {x : Str} {p pos : Pos} {e : Expr} {es : List Expr} {t : TA} {ds : List Value} {dvs : List V}
theorem run_excI {pins : List (Addr × Obj)} {σ : St} {H : Hp} {s : Shared} {Q : VK} {us : List Value} {vs : List V} (M : ExcI X.K C f) (F : FnOk X.prog X.w X.K X.mg X.base CX k f fd ps sp) (hr : Room (k + 1) X.A) (hb : Binds X.K fd ps ds) (hd : Vals dvs ds)
    (hx : Passes CX X E) (I : Inv X pins σ H s) (r : Vals vs us) (hl : vs.length ≤ 1000) (h : ∀ y, H y = none → sp (.ref y :: (vs ++ dvs)) (upd H y (.ext (ExN y C))) (fun v H2 => v = .non ∧ Q (.ref y) H2) E) :
    wpAny (model X.prog X.w) X.A (call (.ref C) us) (EP X pins σ Q) X.xe s := by
  obtain ⟨tl, N, nm, q', bs, hdct, sn, sub, ab, col, dd, k0, k1, k2, k3, k5, mN, hC, hN, hi, T⟩ := exc_objI I.kIn M.ex
  have fo : ∃ of : Obj, s.heap.get? f = some of ∧ of.cls = .type "function" := by
    have z := beq_iff_eq.mp M.fn
    unfold PySem.W.typeIn at z
    dsimp only at z
    cases lk : X.K.lookup f with
    | none => rw [lk] at z; cases z
    | some o => rw [lk] at z; exact ⟨o, I.kIn f _ lk, by simpa using z⟩
  obtain ⟨of, hf, hfc⟩ := fo
  refine call_initT PySem.F.excBase_ValueError T hC hN hi hf hfc (fun h' y hm => ?_) (by rw [← r.length]; exact small hl)
  obtain ⟨t0, e1, e2, e3⟩ := hm.there
  obtain ⟨fr, I2⟩ := I.laidN (a := y) (o := .ext (ExN y C)) (t' := s.toks) hm.keeps hm.new (ext_new ⟨_, _, _, _, _, _, e1⟩ ⟨_, e1⟩ ExN.keep)
  have hq := h y fr
  have r2 : Vals (V.ref y :: (vs ++ dvs)) (Value.ref y :: (us ++ ds)) := .cons rfl (r.append hd)
  have hl2 : (Value.ref y :: us ++ ds).length = ps.length := by
    have e := r2.length
    rw [F.len _ _ _ _ hq] at e
    exact e.symm
  refine wpAny_call (codeAny_mono (F.run _ X.stack _ _ ⟨Value.ref y :: us, []⟩ (Value.ref y :: (us ++ ds)) _ _ E (hr.make C us []) (I2.env0.make C us []) (hb _ (Value.ref y :: us) I2.kIn hl2) r2 hq) fun r s' hq' => ?_)
  cases r with
  | error e => exact hx pins σ _ _ e s' I2 hq'
  | ok fl =>
    cases fl with
    | ret u =>
      obtain ⟨v, H', I3, rv, ev, q3⟩ := I2.after hq'
      subst ev
      exact ⟨rv, ⟨V.ref y, H', I3, rfl, q3⟩⟩
    | next => exact False.elim hq'
    | brk => exact False.elim hq'
    | cont => exact False.elim hq'
theorem pe_excI (F : ∃ f fd, FnOk X.prog X.w X.K X.mg X.base CX k f fd ps sp ∧ ExcI X.K C f ∧ Binds X.K fd ps []) (hx : Passes CX X E) (hr : Room n X.A) (hg : Gl X x) (hm : X.mg x = some (.ref C)) (ha : PA X (e :: es) t) (hk : k + 1 ≤ n := by decide)
    (hdb : (x == ("__debug__" : Str)) = false := by decide) (he : starEach (e :: es) X.env = (false, eval e X.env) :: starEach es X.env := by rfl) (hpl : (backTo pos (starEach es X.env)).any (·.1) = false := by rfl) :
    PE X (.Call (.Name x p) (e :: es) [] pos) (tExcI C sp [] E t) := by
  obtain ⟨f, fd, G, M, b⟩ := F
  intro pins s σ H Q I h
  refine wpAny_Call_Name_kw (ld_glob I hg hm ?_ hdb)
  exact PySem.W.callWith_K (h₀ := X.base) I.ok.mod.kin M.kp (thn (ha pos pins s σ H _ I h) fun us s1 ⟨vs, H1, I1, r, hl, q⟩ => ⟨I1.kIn, run_excI M G (hr.mono hk) b .nil hx I1 r hl q⟩) he hpl
end
end L2
set_option Elab.async false
set_option linter.all false
set_option maxRecDepth 100000
set_option maxHeartbeats 1000000
namespace L2
open PySem PySem.Spec PyProof.Rows
section
variable {prog : Program} {w : World} {A : Around} {E : Value → Shared → Prop} {h : Heap} {g : Array GenState} {d : Drawn} {t : Nat} {os : OsState}
variable {nm q : Str} {C N : Addr} {bs bm bmB : List Value} {hdct : Bool} {sn : List Str} {sub : List Value} {ab : Bool} {col : Option Bool} {dd : Option Addr} {k0 k1 k2 k3 k5 : Option Value} {B newId initId : String}
theorem exc_init_call (F : ExcBaseFacts B newId initId bmB) (T : OwnTail h bmB bm) {us : List Value} {y : Addr} {v0 v1 v2 v3 v4 v5 : Value} {Q : Value → Shared → Prop}
    (hC : h.get? C = some (excClassObj nm q C N bs bm hdct sn sub ab col dd k0 k1 k2 k3 k5 newId)) (hy : h.get? y = some { cls := .ref C, data := .fields #[v0, v1, v2, v3, v4, v5] }) (hz : us.length ≤ sizeLine)
    (go : ∀ h', (∀ b o, b ≠ y → h.get? b = some o → h'.get? b = some o) → (∃ u0 : Value, h'.get? y = some { cls := .ref C, data := .fields #[u0, v1, v2, v3, v4, v5] }) → Q .none ⟨h', g, d, t, os⟩) :
    wpAny (model prog w) A (call (.builtin initId) (.ref y :: us)) Q E ⟨h, g, d, t, os⟩ := by
  refine wpAny_call (codeAny_call_builtin F.init.plain F.initEntry (wpAny_check_init_subT F T hC hy rfl ?_))
  wp_walk
  have fin := go ((h.push { cls := .type "tuple", data := .seq us.toArray }).update y (Obj.mapFields fun x => x.setIfInBounds 0 (.ref h.objs.size))) (fun b o hb e => ?_) ⟨.ref h.objs.size, ?_⟩
  · show wpAny _ _ (match v0 with | .ref a => letGo [v0] | x => pure ()) _ _ _
    split
    · refine wpAny_letGo ?_
      wp_walk
      exact fin
    · refine wpAny_pure ?_
      wp_walk
      exact fin
  · rw [Heap.get?_update_other _ _ (Ne.symm hb)]
    exact Heap.get?_push_of_some _ e
  · rw [Heap.get?_update_self _ (Heap.get?_push_of_some _ hy) rfl]
    rfl
end
structure PIni (K : PySem.W.Frag) (P : Addr) : Prop where
  sp : PySem.W.specialIn K (.ref P) "__getattribute__" = some (some (.builtin "type.__getattribute__"))
  rd : PySem.W.readsIn K P (.type "type") = true
  fc : PySem.W.findCls K (.ref P) (.type "type") "__init__" = some (.val (.builtin "ValueError.__init__"))
theorem upd_id {H : Hp} {a : Addr} {o : HO} (e : H a = some o) : upd H a o = H := by
  funext b
  by_cases z : b = a
  · subst z; rw [upd_same, e]
  · rw [upd_ne z]
def tPIni (K : PySem.W.Frag) (t : TA) : TE := fun σ H Q => t σ H fun vs H1 => ∃ y C f u, vs = [.ref y, u] ∧ H1 y = some (.ext (ExN y C)) ∧ excInI K C f = true ∧ Q .non H1
section
variable {X : Cx} {x : Str} {P : Addr} {np apos pos : Pos} {e : Expr} {es : List Expr} {t : TA}
theorem run_pini {pins : List (Addr × Obj)} {σ : St} {H : Hp} {s : Shared} {Q : VK} {us : List Value} {vs : List V} (I : Inv X pins σ H s) (r : Vals vs us) (h : ∃ y C f u, vs = [.ref y, u] ∧ H y = some (.ext (ExN y C)) ∧ excInI X.K C f = true ∧ Q .non H) :
    wpAny (model X.prog X.w) X.A (call (.builtin "ValueError.__init__") us) (EP X pins σ Q) X.xe s := by
  obtain ⟨y, C, f, u, rfl, hy, ex, q⟩ := h
  obtain ⟨v1, v2, rfl, r1, r2⟩ := vals2 r
  cases r1
  obtain ⟨w0, w1, w2, w3, w4, w5, ho⟩ := (I.hok y _ hy).1
  obtain ⟨tl, N, nm, q', bs, hdct, sn, sub, ab, col, dd, k0, k1, k2, k3, k5, mN, hC, hN, hi, T⟩ := exc_objI I.kIn ex
  refine exc_init_call PySem.F.excBase_ValueError T hC ho (small (show 1 ≤ 1000 by decide)) fun h' kp ⟨u0, hn⟩ => ?_
  have I' := I.write (x := y) (e := y) (o := .ext (ExN y C)) (h' := h') (t' := s.toks) (by rw [hy]; exact True.intro) (.inl rfl) (fun b o hb z => kp b o hb z) ⟨_, hn⟩ (ext_new ⟨_, _, _, _, _, _, hn⟩ ⟨_, hn⟩ ExN.keep)
  rw [upd_id hy] at I'
  exact ⟨.non, H, I', rfl, q⟩
theorem pe_pini {pl : Sem Bool} (M : PIni X.K P) (hg : Gl X x) (hm : X.mg x = some (.ref P)) (ha : PA X (e :: es) t)
    (hdb : (x == ("__debug__" : Str)) = false := by decide) (hst : starEach (e :: es) X.env = (false, eval e X.env) :: starEach es X.env := by rfl) (hpl : (backTo pos (starEach es X.env)).any (·.1) = false := by rfl)
    (ht : eval (.Call (.Attribute (.Name x np) "__init__" apos) (e :: es) [] pos) X.env = (do
      let ov ← eval (.Name x np) X.env
      standAt apos.atName
      let (f, first) ← holding [ov] (getMethod ov "__init__" pl)
      callWith pos f first (backTo pos (starEach (e :: es) X.env)) (backToKw pos (keywordEach [] X.env))) := by rfl) :
    PE X (.Call (.Attribute (.Name x np) "__init__" apos) (e :: es) [] pos) (tPIni X.K t) := by
  intro pins s σ H Q I h
  refine PySem.W.methodCall_KW (pl := pl) (ld_glob I hg hm ?_ hdb) ht
  refine PySem.W.method_cls I.kIn M.sp (PySem.W.cls_value I.kIn M.rd M.fc rfl ?_)
  have I1 := I.tok (s.toks + 1)
  exact PyProof.Rows.callWith_builtin1 (thn (ha pos pins _ σ H _ I1 h) fun us s2 ⟨vs, H2, I2, r, q2⟩ => run_pini I2 r q2) hst hpl
end
end L2
set_option Elab.async false
set_option linter.all false
set_option maxRecDepth 100000
set_option maxHeartbeats 1000000
namespace L2
open PySem PySem.Spec PyProof.Rows
theorem refuse_tail {h : Heap} {tl : List Value} (T : OwnTail h VEB tl) (self : Value) : refuseLoop self "__setattr__" tl = pure () := by
  induction T with
  | base => exact PySem.F.store_ValueError.passes self
  | _ => rw [refuseLoop_ref]; assumption
theorem excInI_cls {K : PySem.W.Frag} {h : Heap} {C f : Addr} (X : K.In h) (c : excInI K C f = true) : ∃ cd bm, PySem.W.clsIn K C = some cd ∧ cd.mro = .ref C :: bm ∧ OwnTail h VEB bm := by
  have q := c
  unfold excInI at q
  unfold PySem.W.clsIn
  split at q
  · rename_i dd cd sl ho
    rw [ho]
    split at q
    · rename_i C' bm k0 k1 k2 k3 n k5 hm hs
      simp only [Bool.and_eq_true, beq_iff_eq, Bool.not_eq_true'] at q
      obtain ⟨⟨⟨⟨⟨z1, z2⟩, hdel⟩, ht⟩, hok⟩, hi⟩ := q
      subst z1
      exact ⟨cd, bm, rfl, hm, PySem.W.tail_of_in X ht⟩
    · cases q
  · cases q
structure ExF (K : PySem.W.Frag) (C f : Addr) (z : Str) : Prop where
  ex : excInI K C f = true
  b : ExcB K C
  sa : PySem.W.findIn K (.ref C) "__setattr__" = some (some (.builtin "object.__setattr__"))
  na : PySem.W.findIn K (.ref C) z = some none
section
open PySem.W Builtin Builtin.ObjectAttr
variable {prog : Program} {w : World} {A : Around} {E : Value → Shared → Prop} {s : Shared} {K : Frag} {x C f : Addr}
theorem osaX_open {R : Result → Shared → Prop} {ox : Obj} {od : Option Obj} {name : Str} {tk : Tok} {v : Value} (X : K.In s.heap) (I : InstAt s.heap x ox C od) (c : ExF K C f name)
    (go : ∀ b, wpAny (model prog w) A.in1 (storeInOwnDict (.ref x) (.ref C) (.str name tk) name v b) (fun fin s' => match fin with | .done z => R (.ok z) s' | .again c' => c'.quiet = true ∧ codeAny (model prog w) A c' R s') (fun e s' => R (.error e) s') s) :
    codeAny (model prog w) A (.call (.builtin "object.__setattr__") ⟨[.ref x, .str name tk, v], []⟩) R s := by
  have SF := PySem.F.store_object
  obtain ⟨cd, bm, hc, hmro, T⟩ := excInI_cls X c.ex
  have isO : Looks (model prog w) s.heap (isInstance (.ref x) (.type "object")) true := I.type.andThen (looks_mroIn X c.b.hm)
  refine codeAny_call_builtin SF.slot.plain SF.entry (@check_slot (model prog w) _ _ s "object.__setattr__" "object" "__setattr__" (.ref x) [.str name tk, v] [] _ SF.kind SF.split isO (SF.args (.ref x) (.str name tk) v) ?_)
  have L1 : Looks (model prog w) s.heap (mroOf (.ref C)) cd.mro := (looks_clsIn X hc).andThen .now
  have L2 : Looks (model prog w) s.heap (storeTaker? none) none := .now
  rw [osa_eq, refuse_eq]
  refine wpAny_bind (wpAny_bind (I.type.here (wpAny_bind (L1.here ?_))))
  rw [hmro, refuseLoop_ref, refuse_tail T]
  exact wpAny_pure (wpAny_bind (I.type.here (wpAny_bind ((looks_findIn X c.na).here (wpAny_bind (L2.here (go _)))))))
end
section
variable {prog : Program} {w : World} {A : Around} {E : Value → Shared → Prop} {s : Shared} {K : PySem.W.Frag} {x dx C f : Addr} {mA : Str → Option Value} {name : Str} {v : Value}
theorem setX_more {ns : List Str} {Q : Unit → Shared → Prop} {vs : Array Value} (X : K.In s.heap) (hx : s.heap.get? x = some { cls := .ref C, dict := some dx, data := .fields vs }) (hns : s.heap.Ns1 dx mA) (c : ExF K C f name)
    (hw : PySem.Within mA ns) (hsz : ns.length ≤ 1000)
    (go : ∀ h', h'.Ns1 dx (fun y => if y = name then some v else mA y) → Heap.SameBut dx s.heap h' → Q () { s with heap := h', toks := s.toks + 2 }) :
    wpAny (model prog w) A (setAttr (.ref x) name v) Q E s := by
  obtain ⟨od, hod, _⟩ := lookIn_ns hns
  have J : PySem.W.InstAt s.heap x { cls := .ref C, dict := some dx, data := .fields vs } C (some od) := ⟨hx, rfl, rfl, hod⟩
  have hz : ns.length + 1 ≤ sizeLine := small1000 hsz
  refine PySem.W.set_plain X J c.sa (osaX_open (s := { s with toks := s.toks + 1 }) X J c fun b => ?_)
  obtain ⟨cd, hc, hd'⟩ := PySem.W.any_some c.b.hd
  refine wpAny_bind (wpAny_pure (wpAny_bind (wpAny_bind (wpAny_loadPart hx (wpAny_bind (PySem.W.Looks.here (s := { s with toks := s.toks + 1 }) (PySem.W.looks_clsIn X hc) ?_))))))
  rw [hd']
  refine wpAny_pure (a := some dx) (wpAny_bind (wpAny_pure (wpAny_bind ?_)))
  refine wpAny_nsSet1 (s := { s with toks := s.toks + 1 }) hns fun h' hn2 hs2 => ?_
  obtain ⟨oD, esD, epD, hoD, hdD, hcD⟩ := hn2.count (PySem.Within.cons name v hw)
  refine wpAny_bind (wpAny_lookBehind hoD (by rw [hdD]; exact pastItsLine_dict (Nat.le_trans hcD (by rw [List.length_cons]; omega))) ?_)
  exact wpAny_pure (go _ hn2 hs2)
theorem setX_first {Q : Unit → Shared → Prop} {vs : Array Value} (X : K.In s.heap) (hx : s.heap.get? x = some { cls := .ref C, data := .fields vs }) (c : ExF K C f name)
    (go : ∀ h' t', (∀ b o, b ≠ x → s.heap.get? b = some o → h'.get? b = some o) → h'.get? x = some { cls := .ref C, dict := some s.heap.objs.size, data := .fields vs } → h'.Ns1 s.heap.objs.size (fun y => if y = name then some v else none) → Q () { s with heap := h', toks := t' }) :
    wpAny (model prog w) A (setAttr (.ref x) name v) Q E s := by
  have J : PySem.W.InstAt s.heap x { cls := .ref C, data := .fields vs } C none := ⟨hx, rfl, rfl, trivial⟩
  refine PySem.W.set_plain X J c.sa (osaX_open (s := { s with toks := s.toks + 1 }) X J c fun b => ?_)
  obtain ⟨cd, hc, hd'⟩ := PySem.W.any_some c.b.hd
  refine wpAny_bind (wpAny_pure (wpAny_bind (wpAny_bind (wpAny_loadPart hx (wpAny_bind (PySem.W.Looks.here (s := { s with toks := s.toks + 1 }) (PySem.W.looks_clsIn X hc) ?_))))))
  rw [hd']
  have hx1 : (s.heap.push { cls := .type "dict", data := .dict #[] }).get? x = some { cls := .ref C, data := .fields vs } := Heap.get?_push_of_some _ hx
  have ne : x ≠ s.heap.objs.size := Nat.ne_of_lt (Heap.lt_size hx)
  show wpAny _ _ (alloc { cls := .type "dict", data := .dict #[] } >>= fun d => update x (fun o => { cls := o.cls, dict := some d, data := o.data, slots := o.slots }) >>= fun _ => pure (some d)) _ _ _
  refine wpAny_bind (wpAny_alloc' (wpAny_bind (wpAny_update' hx1 (wpAny_pure ?_))))
  have hgd : ((s.heap.push { cls := .type "dict", data := .dict #[] }).update x fun o => { cls := o.cls, dict := some s.heap.objs.size, data := o.data, slots := o.slots }).get? s.heap.objs.size = some { cls := .type "dict", data := .dict #[] } :=
    (Heap.get?_update_ne _ _ _ _ ne.symm).trans (Heap.get?_push_at rfl rfl)
  have hnd : ((s.heap.push { cls := .type "dict", data := .dict #[] }).update x fun o => { cls := o.cls, dict := some s.heap.objs.size, data := o.data, slots := o.slots }).Ns s.heap.objs.size (fun _ => none) :=
    ⟨_, #[], _, hgd, rfl, (fun e he => absurd he (by simp)), fun _ => rfl⟩
  have hxd : ((s.heap.push { cls := .type "dict", data := .dict #[] }).update x fun o => { cls := o.cls, dict := some s.heap.objs.size, data := o.data, slots := o.slots }).get? x = some { cls := .ref C, dict := some s.heap.objs.size, data := .fields vs } := Heap.get?_update_self _ hx1 rfl
  refine wpAny_bind (wpAny_pure (wpAny_bind ?_))
  refine wpAny_nsSet1 (Heap.Ns1.of_empty hnd) fun h' hn2 hs2 => ?_
  obtain ⟨oD, esD, epD, hoD, hdD, hcD⟩ := hn2.count (Within.cons name v Within.nil)
  refine wpAny_bind (wpAny_lookBehind hoD (by rw [hdD]; exact pastItsLine_dict (Nat.le_trans hcD (by rw [List.length_cons, List.length_nil, sizeLine_eq]; omega))) ?_)
  exact wpAny_pure (go h' _ (fun b o hb e => (hs2.2 b (Nat.ne_of_lt (Heap.lt_size e))).trans ((Heap.get?_update_ne _ _ _ _ hb).trans (Heap.get?_push_of_some _ e))) ((hs2.2 x ne).trans hxd) hn2)
end
section
open PySem.W PySem.Calls Builtin Builtin.ObjectAttr
variable {K : Frag} {x C dx : Addr} {prog : Program} {w : World} {A : Around} {E : Value → Shared → Prop} {s : Shared}
theorem getX {z : Str} {v : Value} {vs : Array Value} {mA : Str → Option Value} {b : Bool} {Q : Value → Shared → Prop} (X : K.In s.heap) (hx : s.heap.get? x = some { cls := .ref C, dict := some dx, data := .fields vs }) (hns : s.heap.Ns1 dx mA) (c : ExcB K C)
    (na : findIn K (.ref C) z = some none) (hv : mA z = some v) (hh : handedIn v = true) (q : Q v { s with toks := s.toks + 1 }) : wpAny (model prog w) A (getAttr (.ref x) z b) Q E s := by
  obtain ⟨od, hod, hl⟩ := lookIn_ns hns
  have J : InstAt s.heap x { cls := .ref C, dict := some dx, data := .fields vs } C (some od) := ⟨hx, rfl, rfl, hod⟩
  have e : ExAt x C s.heap := ⟨_, hx, rfl, _, rfl⟩
  have T2 := looks_find (M := model prog w) X J (findObj_own c.hd na rfl (by rw [hl, hv]))
  obtain ⟨hp, gn, dw, tk, os⟩ := s
  have T0 := e.ty (M := model prog w)
  have T1 := looks_findIn (M := model prog w) X c.h1
  have T3 := looks_findIn (M := model prog w) X c.h2
  have B0 := PySem.F.attrBase_ValueError.ga.bind (.ref x)
  unfold getAttr getAttrBy
  refine wpAny_bind (wpAny_mkText (wpAny_holding (wpAny_bind (T0.at (wpAny_bind (T1.at ?_))))))
  show wpAny _ _ (getAttrByItsOwn (.ref x) (.str z tk) (.ref C) (.builtin "BaseException.__getattribute__") true b) _ _ _
  unfold getAttrByItsOwn
  refine wpAny_bind ((show Looks (model prog w) hp (hookBefore (.ref C)) none from T3).at ?_)
  unfold callGetattribute
  rw [show (b && onTheHeap (Value.builtin "BaseException.__getattribute__")) = false from by cases b <;> rfl, if_neg (by decide)]
  unfold boundAndCalled
  rw [B0]
  have go : ∀ A', wpAny (model prog w) A' (Builtin.«object.__getattribute__» ⟨[.ref x, .str z tk], []⟩) (fun fin s' => match fin with | .done (.ret u) => u = v ∧ s' = ⟨hp, gn, dw, tk + 1, os⟩ | _ => False) (fun _ _ => False) ⟨hp, gn, dw, tk + 1, os⟩ := fun A' => by
    unfold Builtin.«object.__getattribute__»
    refine wpAny_bind (wpAny_pure (wpAny_bind (wpAny_pure (wpAny_bind (T0.at (wpAny_bind (T2.at ?_)))))))
    exact wpAny_pure ⟨rfl, rfl⟩
  refine wpAny_bind (wpAny_attempt (wpAny_holding (wpAny_bind (wpAny_pure (wpAny_call (eb_call X e c ?_ go))))))
  show wpAny _ _ (handedOut v) _ _ _
  rw [handedOut_of hh]
  exact wpAny_pure q
end
section
variable {X : Cx} {pins : List (Addr × Obj)} {σ : St} {H : Hp} {s : Shared} {x dx C f : Addr} {fs : List (Str × V)} {z : Str} {v : V} {A : Around} {E : Value → Shared → Prop}
theorem getX_ok {b : Bool} {Q : Value → Shared → Prop} (I : Inv X pins σ H s) (e1 : H x = some (.ext (ExD x C dx))) (e2 : H dx = some (.ext (XD dx fs))) (c : ExcB X.K C) (n : NoAttr X.K C z) (l : fs.lookup z = some v)
    (h : ∀ u s', Inv X pins σ H s' → RelV v u → Q u s') : wpAny (model X.prog X.w) A (getAttr (.ref x) z b) Q E s := by
  obtain ⟨ne, w0, w1, w2, w3, w4, w5, ho⟩ := (I.hok x _ e1).1
  obtain ⟨mA, hns, r, wi⟩ := (I.hok dx _ e2).1
  obtain ⟨u, hu, ru⟩ := RelO.some_of (v := v) (o := mA z) (by rw [← l]; exact r z)
  exact getX I.kIn ho hns c n hu (handed_of ru) (h u _ (I.tok _) ru)
theorem setX1_ok {y : V} {u : Value} {Q : Unit → Shared → Prop} (I : Inv X pins σ H s) (e : H x = some (.ext (ExN x C))) (c : ExF X.K C f z) (ry : RelV y u)
    (h : ∀ d s', H d = none → Inv X pins σ (upd (upd H d (.ext (XD d [(z, y)]))) x (.ext (ExD x C d))) s' → Q () s') : wpAny (model X.prog X.w) A (setAttr (.ref x) z u) Q E s := by
  obtain ⟨w0, w1, w2, w3, w4, w5, ho⟩ := (I.hok x _ e).1
  refine setX_first I.kIn ho c fun h' t' kp hx' hns => ?_
  have ne : s.heap.objs.size ≠ x := Nat.ne_of_gt (Heap.lt_size ho)
  have old : (h'.update x fun o => { cls := o.cls, data := o.data, slots := o.slots }).get? x = some { cls := .ref C, data := .fields #[w0, w1, w2, w3, w4, w5] } := Heap.get?_update_self _ hx' rfl
  have oth : ∀ b, b ≠ x → (h'.update x fun o => { cls := o.cls, data := o.data, slots := o.slots }).get? b = h'.get? b := fun b hb => Heap.get?_update_ne _ _ _ _ hb
  have fr := I.hok.fresh (Nat.le_refl s.heap.objs.size)
  obtain ⟨od, hod, _⟩ := lookIn_ns hns
  have I1 := I.laid (a := s.heap.objs.size) (o := .ext (XD s.heap.objs.size [(z, y)])) (t' := t') (h' := h'.update x fun o => { cls := o.cls, data := o.data, slots := o.slots }) (fun b o hb => by
    by_cases q : b = x
    · subst q; rw [ho] at hb; cases hb; exact old
    · rw [oth b q]; exact kp b o q hb) (Nat.le_refl _) (ext_new ⟨_, hns.at (fun o hb => by rw [oth _ ne]; exact hb), fun g => ?_, fun g hg => ?_⟩ ⟨od, by rw [oth _ ne]; exact hod⟩ XD.keep)
  · have I2 := I1.write (x := x) (e := x) (o := .ext (ExD x C s.heap.objs.size)) (h' := h') (t' := t') (by rw [upd_ne ne.symm, e]; exact True.intro) (.inl rfl) (fun b o hb q => by rw [← oth b hb]; exact q) ⟨_, hx'⟩ (ext_new ⟨ne, _, _, _, _, _, _, hx'⟩ ⟨_, hx'⟩ ExD.keep)
    exact h _ _ fr I2
  · show RelO (List.lookup g [(z, y)]) (if g = z then some u else none)
    by_cases q : g = z
    · subst q; rw [if_pos rfl, lk_eq]; exact ry
    · rw [if_neg q, lk_ne q]; exact True.intro
  · by_cases q : g = z
    · subst q; exact List.mem_cons_self ..
    · exact absurd (show (if g = z then some u else none) = none by rw [if_neg q]) hg
theorem setX2_ok {y : V} {u : Value} {Q : Unit → Shared → Prop} (I : Inv X pins σ H s) (e1 : H x = some (.ext (ExD x C dx))) (e2 : H dx = some (.ext (XD dx fs))) (c : ExF X.K C f z) (hl : fs.length < 1000) (ry : RelV y u)
    (h : ∀ s', Inv X pins σ (upd H dx (.ext (XD dx (putF z y fs)))) s' → Q () s') : wpAny (model X.prog X.w) A (setAttr (.ref x) z u) Q E s := by
  obtain ⟨ne, w0, w1, w2, w3, w4, w5, ho⟩ := (I.hok x _ e1).1
  obtain ⟨mA, hns, r, wi⟩ := (I.hok dx _ e2).1
  refine setX_more I.kIn ho hns c wi (by rw [List.length_map]; omega) fun h' hn2 sb => h _ ?_
  obtain ⟨od, hod, _⟩ := lookIn_ns hn2
  refine I.write (x := dx) (e := dx) (by rw [e2]; exact True.intro) (.inl rfl) (fun b o hb q => (sb.2 b hb).trans q) ⟨od, hod⟩ (ext_new ⟨_, hn2, fun g => ?_, fun g hg => ?_⟩ ⟨od, hod⟩ XD.keep)
  · show RelO ((putF z y fs).lookup g) (if g = z then some u else mA g)
    rw [lookup_putF]
    by_cases q : g = z
    · rw [if_pos q, if_pos q]; exact ry
    · rw [if_neg q, if_neg q]; exact r g
  · by_cases q : g = z
    · rw [q]; exact (keys_putF z y fs).1
    · refine (keys_putF z y fs).2 g (wi g fun a => hg ?_)
      show (if g = z then some u else mA g) = none
      rw [if_neg q]; exact a
end
def tXf (K : PySem.W.Frag) (ta : TE) (z : Str) : TE := fun σ H Q => ta σ H fun x H1 => ∃ a C dx fs v, x = .ref a ∧ H1 a = some (.ext (ExD a C dx)) ∧ H1 dx = some (.ext (XD dx fs)) ∧ ExcB K C ∧ NoAttr K C z ∧ fs.lookup z = some v ∧ Q v H1
def sXf1 (K : PySem.W.Frag) (ta tv : TE) (z : Str) : TS := fun D σ H => tv σ H fun y H1 => ta σ H1 fun x H2 => ∃ a C f, x = .ref a ∧ H2 a = some (.ext (ExN a C)) ∧ ExF K C f z ∧ ∀ d, H2 d = none → D.nx σ (upd (upd H2 d (.ext (XD d [(z, y)]))) a (.ext (ExD a C d)))
def sXf2 (K : PySem.W.Frag) (ta tv : TE) (z : Str) : TS := fun D σ H => tv σ H fun y H1 => ta σ H1 fun x H2 => ∃ a C f dx fs, x = .ref a ∧ H2 a = some (.ext (ExD a C dx)) ∧ H2 dx = some (.ext (XD dx fs)) ∧ ExF K C f z ∧ fs.length < 1000 ∧ D.nx σ (upd H2 dx (.ext (XD dx (putF z y fs))))
section
variable {X : Cx} {o e value : Expr} {z : Str} {pos pos' : Pos} {ta tv : TE}
theorem pe_xf (he : PE X e ta) (hb : attributeBase e z X.env (eval e X.env) = eval e X.env) : PE X (.Attribute e z pos) (tXf X.K ta z) := by
  intro pins s σ H Q I h
  refine attr_of hb (thn (he pins s σ H _ I h) fun u s1 ⟨x, H1, I1, rx, a, C, dx, fs, v, ex, e1, e2, c, n, l, q⟩ => ?_)
  subst ex
  obtain rfl : u = Value.ref a := rx
  exact getX_ok I1 e1 e2 c n l fun u' s2 I2 ru => ⟨v, H1, I2, ru, q⟩
theorem ps_xf1 (ha : PE X o ta) (hv : PE X value tv) (hs : swapsWith value (some (.Attribute o z pos')) pos.line X.env = pure false) : PS X (.Assign [.Attribute o z pos'] value pos) (sXf1 X.K ta tv z) := by
  intro pins s σ H D I h
  refine plainObj_wpAny_Assign_Attribute (thn (hv pins s σ H _ I h) fun u s1 ⟨y, H1, I1, ry, q⟩ => thn (ha pins s1 σ H1 _ I1 q) fun ov s2 ⟨x, H2, I2, rx, a, C, f, ex, e1, c, q2⟩ => ?_) hs
  subst ex
  obtain rfl : ov = Value.ref a := rx
  exact setX1_ok I2 e1 c ry fun d s3 fr I3 => ⟨σ, _, I3, q2 d fr⟩
theorem ps_xf2 (ha : PE X o ta) (hv : PE X value tv) (hs : swapsWith value (some (.Attribute o z pos')) pos.line X.env = pure false) : PS X (.Assign [.Attribute o z pos'] value pos) (sXf2 X.K ta tv z) := by
  intro pins s σ H D I h
  refine plainObj_wpAny_Assign_Attribute (thn (hv pins s σ H _ I h) fun u s1 ⟨y, H1, I1, ry, q⟩ => thn (ha pins s1 σ H1 _ I1 q) fun ov s2 ⟨x, H2, I2, rx, a, C, f, dx, fs, ex, e1, e2, c, l, q2⟩ => ?_) hs
  subst ex
  obtain rfl : ov = Value.ref a := rx
  exact setX2_ok I2 e1 e2 c l ry fun s3 I3 => ⟨σ, _, I3, q2⟩
end
end L2
set_option Elab.async false
set_option linter.all false
set_option maxRecDepth 100000
set_option maxHeartbeats 1000000
set_option exponentiation.threshold 2000
namespace L2
open PySem PySem.Spec PyProof.Rows
def tFs (ta : TE) : TE := fun σ H Q => ta σ H fun x H1 => ∃ i : Int, x = .int i ∧ 0 ≤ i ∧ i < 1000000 ∧ ∀ z, Q (.str z) H1
theorem int_small {i : Int} (h0 : 0 ≤ i) (h1 : i < 1000000) : i.natAbs.log2 < 1920 := by
  rcases Nat.eq_zero_or_pos i.natAbs with z | z
  · rw [z]; decide
  · exact Nat.lt_of_lt_of_le ((Nat.log2_lt (Nat.ne_of_gt z)).mpr (show i.natAbs < 2 ^ 20 by omega)) (by decide)
theorem int_short {i : Int} (h0 : 0 ≤ i) (h1 : i < 1000000) : (Str.ofString (toString i)).length ≤ 7 := by
  have e := int_text_length_le10 (k := 6) (by decide) (show i.natAbs < 10 ^ 6 by omega)
  rw [PySem.ofString_length]; exact e
section
variable {X : Cx} {e : Expr} {a b : Str} {k k' : Nat} {p1 p2 p3 pos : Pos} {ta : TE}
theorem fs_end {pins : List (Addr × Obj)} {σ : St} {H : Hp} {s : Shared} {Q : VK} {out : Str} (I : Inv X pins σ H s) (hb : b.length ≤ 1000) (ho : out.length ≤ 2000) (q : ∀ z, Q (.str z) H) :
    wpAny (model X.prog X.w) X.A (joinParts out [eval (.Constant (.str b) k' p3) X.env]) (EP X pins σ Q) X.xe s := by
  refine joinParts_cons (Calls.Constant_str ⟨Nat.le_trans (show (out ++ b).length ≤ 16777216 by rw [Str.length_append]; omega) (by decide), joinParts_nil ⟨.str _, H, (I.tok _).tok _, ⟨_, rfl⟩, q _⟩ (Nat.le_trans (show (out ++ b).length ≤ 16777216 by rw [Str.length_append]; omega) (by decide))⟩)
theorem pe_fs2 (he : PE X e ta) (hb : b.length ≤ 1000) : PE X (.JoinedStr [.FormattedValue e (-1) none p2, .Constant (.str b) k' p3] pos) (tFs ta) := by
  intro pins s σ H Q I h
  refine JoinedStr_many (joinParts_cons (FormattedValue_plain (thn (he pins s σ H _ I h) fun u s1 ⟨x, H1, I1, rx, i, ex, h0, h1, q⟩ => ?_)))
  subst ex
  obtain ⟨t, rfl⟩ := (show ∃ t, u = Value.int i t from rx)
  have sh := int_short h0 h1
  exact formatField_int_small (int_small h0 h1) ⟨Nat.le_trans (show (Str.empty ++ Str.ofString (toString i)).length ≤ 16777216 by rw [Str.length_append]; show 0 + _ ≤ _; omega) (by decide), fs_end ((I1.tok _).tok _) hb (by rw [Str.length_append]; show 0 + _ ≤ _; omega) q⟩
theorem pe_fs3 (he : PE X e ta) (ha : a.length ≤ 1000) (hb : b.length ≤ 1000) : PE X (.JoinedStr [.Constant (.str a) k p1, .FormattedValue e (-1) none p2, .Constant (.str b) k' p3] pos) (tFs ta) := by
  intro pins s σ H Q I h
  refine JoinedStr_many (joinParts_cons (Calls.Constant_str ⟨Nat.le_trans (show (Str.empty ++ a).length ≤ 16777216 by rw [Str.length_append]; show 0 + _ ≤ _; omega) (by decide), joinParts_cons (FormattedValue_plain (thn (he pins _ σ H _ (I.tok _) h) fun u s1 ⟨x, H1, I1, rx, i, ex, h0, h1, q⟩ => ?_))⟩))
  subst ex
  obtain ⟨t, rfl⟩ := (show ∃ t, u = Value.int i t from rx)
  have sh := int_short h0 h1
  have l0 : (Str.empty ++ a).length ≤ 1000 := by rw [Str.length_append]; show 0 + _ ≤ _; omega
  exact formatField_int_small (int_small h0 h1) ⟨Nat.le_trans (show ((Str.empty ++ a) ++ Str.ofString (toString i)).length ≤ 16777216 by rw [Str.length_append]; omega) (by decide), fs_end ((I1.tok _).tok _) hb (by rw [Str.length_append]; omega) q⟩
end
end L2
set_option Elab.async false
set_option linter.all false
set_option maxRecDepth 100000
set_option maxHeartbeats 1000000
namespace L2
open PySem PySem.Spec PyProof.Rows
def kitT (K : PySem.W.Frag) (cs : List Addr) : Bool := (List.range cs.length).all fun i => (List.range cs.length).all fun j => PySem.W.kitOne K (.ref (cs.getD i 0)) (.ref (cs.getD j 0)) == some (i == j)
def kitP (K : PySem.W.Frag) (cs : List Addr) (P : Addr) : Bool := cs.all fun c => PySem.W.kitOne K (.ref c) (.ref P) == some true && PySem.W.kitOne K (.ref c) (.type "ValueError") == some true && PySem.W.kitOne K (.ref P) (.ref c) == some false
theorem kit_at {K : PySem.W.Frag} {cs : List Addr} (h : kitT K cs = true) {i j : Nat} (hi : i < cs.length) (hj : j < cs.length) : PySem.W.kitOne K (.ref (cs.getD i 0)) (.ref (cs.getD j 0)) = some (i == j) :=
  beq_iff_eq.mp (List.all_eq_true.mp (List.all_eq_true.mp h i (List.mem_range.mpr hi)) j (List.mem_range.mpr hj))
theorem kit_p {K : PySem.W.Frag} {cs : List Addr} {P : Addr} (h : kitP K cs P = true) {c : Addr} (hc : c ∈ cs) : PySem.W.kitOne K (.ref c) (.ref P) = some true ∧ PySem.W.kitOne K (.ref c) (.type "ValueError") = some true ∧ PySem.W.kitOne K (.ref P) (.ref c) = some false := by
  have z := List.all_eq_true.mp h c hc
  rw [Bool.and_eq_true, Bool.and_eq_true] at z
  exact ⟨beq_iff_eq.mp z.1.1, beq_iff_eq.mp z.1.2, beq_iff_eq.mp z.2⟩
def HasXI (P : Program) (w : World) (K : PySem.W.Frag) (mg : Str → Option Value) (base : Heap) (CX : CXT) (C : Addr) (k : Nat) (ps : List Str) (sp : Sp) : Prop := ∃ f fd, FnOk P w K mg base CX k f fd ps sp ∧ ExcI K C f ∧ Binds K fd ps []
section
variable {X : Cx} {CX : CXT} {k n : Nat} {C : Addr} {ps : List Str} {sp : Sp} {E : XK} {x : Str} {p pos : Pos} {e : Expr} {es : List Expr} {t : TA}
theorem pe_excIH (F : HasXI X.prog X.w X.K X.mg X.base CX C k ps sp) (hx : Passes CX X E) (hr : Room n X.A) (hg : Gl X x) (hm : X.mg x = some (.ref C)) (ha : PA X (e :: es) t) (hk : k + 1 ≤ n := by decide)
    (hdb : (x == ("__debug__" : Str)) = false := by decide) (he : starEach (e :: es) X.env = (false, eval e X.env) :: starEach es X.env := by rfl) (hpl : (backTo pos (starEach es X.env)).any (·.1) = false := by rfl) :
    PE X (.Call (.Name x p) (e :: es) [] pos) (tExcI C sp [] E t) := pe_excI F hx hr hg hm ha hk hdb he hpl
end
def Fl (H : Hp) (x C : Addr) (z : Str) (v : V) : Prop := ∃ dx fs, H x = some (.ext (ExD x C dx)) ∧ H dx = some (.ext (XD dx fs)) ∧ fs.lookup z = some v
theorem Fl.same {H H' : Hp} {x C : Addr} {z : Str} {v : V} (g : Same H H') (h : Fl H x C z v) : Fl H' x C z v := let ⟨d, fs, a, b, c⟩ := h; ⟨d, fs, g _ _ a, g _ _ b, c⟩
theorem Fl.isEx {H : Hp} {x C : Addr} {z : Str} {v : V} (h : Fl H x C z v) : IsEx H x C := let ⟨_, _, a, _, _⟩ := h; .d a
section
variable {σ : St} {H : Hp} {Q : VK} {D : Ends} {K : PySem.W.Frag} {C x : Addr} {z : Str} {sp : Sp} {E : XK} {ta tv : TE} {t : TA}
def kExc (C : Addr) (Q : VK) : List V → Hp → Prop := fun vs H1 => vs.length ≤ sizeLine ∧ ∀ y, H1 y = none → Q (.ref y) (upd H1 y (.ext (ExN y C)))
theorem r_exc (h : t σ H (kExc C Q)) : tExc C t σ H Q := h
theorem r_kExc {vs : List V} (hl : vs.length ≤ 1000) (q : ∀ y H', Same H H' → H' y = some (.ext (ExN y C)) → Q (.ref y) H') : kExc C Q vs H := ⟨small hl, fun y fr => q y _ (same_upd (Same.refl _) fr) upd_same⟩
def kXI (C : Addr) (sp : Sp) (E : XK) (Q : VK) : List V → Hp → Prop := fun vs H1 => vs.length ≤ 1000 ∧ ∀ y, H1 y = none → sp (.ref y :: (vs ++ [])) (upd H1 y (.ext (ExN y C))) (fun v H2 => v = .non ∧ Q (.ref y) H2) E
theorem r_excI (h : t σ H (kXI C sp E Q)) : tExcI C sp [] E t σ H Q := h
def kXf (K : PySem.W.Frag) (z : Str) (Q : VK) : VK := fun x H1 => ∃ a C dx fs v, x = .ref a ∧ H1 a = some (.ext (ExD a C dx)) ∧ H1 dx = some (.ext (XD dx fs)) ∧ ExcB K C ∧ NoAttr K C z ∧ fs.lookup z = some v ∧ Q v H1
theorem r_xf (h : ta σ H (kXf K z Q)) : tXf K ta z σ H Q := h
theorem r_kXf {v : V} (h : Fl H x C z v) (b : ExcB K C) (n : ∃ f, ExF K C f z) (q : Q v H) : kXf K z Q (.ref x) H := by
  obtain ⟨dx, fs, a, e, l⟩ := h
  obtain ⟨f, n⟩ := n
  exact ⟨x, C, dx, fs, v, rfl, a, e, b, n.na, l, q⟩
def kPIni (K : PySem.W.Frag) (Q : VK) : List V → Hp → Prop := fun vs H1 => ∃ y C f u, vs = [.ref y, u] ∧ H1 y = some (.ext (ExN y C)) ∧ excInI K C f = true ∧ Q .non H1
theorem r_pini (h : t σ H (kPIni K Q)) : tPIni K t σ H Q := h
theorem r_kPIni {u : V} (e : H x = some (.ext (ExN x C))) (n : ∃ f, ExF K C f z) (q : Q .non H) : kPIni K Q [.ref x, u] H := let ⟨f, n⟩ := n; ⟨x, C, f, u, rfl, e, n.ex, q⟩
def kX1 (K : PySem.W.Frag) (z : Str) (y : V) (D : Ends) (σ : St) : VK := fun x H2 => ∃ a C f, x = .ref a ∧ H2 a = some (.ext (ExN a C)) ∧ ExF K C f z ∧ ∀ d, H2 d = none → D.nx σ (upd (upd H2 d (.ext (XD d [(z, y)]))) a (.ext (ExD a C d)))
theorem r_x1 (h : tv σ H fun y H1 => ta σ H1 (kX1 K z y D σ)) : sXf1 K ta tv z D σ H := h
theorem r_kX1 {y : V} (e : H x = some (.ext (ExN x C))) (n : ∃ f, ExF K C f z) (q : ∀ d, H d = none → D.nx σ (upd (upd H d (.ext (XD d [(z, y)]))) x (.ext (ExD x C d)))) : kX1 K z y D σ (.ref x) H := let ⟨f, n⟩ := n; ⟨x, C, f, rfl, e, n, q⟩
def kX2 (K : PySem.W.Frag) (z : Str) (y : V) (D : Ends) (σ : St) : VK := fun x H2 => ∃ a C f dx fs, x = .ref a ∧ H2 a = some (.ext (ExD a C dx)) ∧ H2 dx = some (.ext (XD dx fs)) ∧ ExF K C f z ∧ fs.length < 1000 ∧ D.nx σ (upd H2 dx (.ext (XD dx (putF z y fs))))
theorem r_x2 (h : tv σ H fun y H1 => ta σ H1 (kX2 K z y D σ)) : sXf2 K ta tv z D σ H := h
theorem r_kX2 {y : V} {dx : Addr} {fs : List (Str × V)} (e1 : H x = some (.ext (ExD x C dx))) (e2 : H dx = some (.ext (XD dx fs))) (n : ∃ f, ExF K C f z) (l : fs.length < 1000) (q : D.nx σ (upd H dx (.ext (XD dx (putF z y fs))))) : kX2 K z y D σ (.ref x) H := let ⟨f, n⟩ := n; ⟨x, C, f, dx, fs, rfl, e1, e2, n, l, q⟩
def kFs (Q : VK) : VK := fun x H1 => ∃ i : Int, x = .int i ∧ 0 ≤ i ∧ i < 1000000 ∧ ∀ z, Q (.str z) H1
theorem r_fsK (h : ta σ H (kFs Q)) : tFs ta σ H Q := h
theorem r_kFs {i : Int} (h0 : 0 ≤ i) (h1 : i < 1000000) (q : ∀ z, Q (.str z) H) : kFs Q (.int i) H := ⟨i, rfl, h0, h1, q⟩
end
inductive El (H : Hp) : V → PyData → Prop
  | int (i : Int) : El H (.int i) (.int i)
  | str {z : Str} (ok : PyData.strOk z = true) : El H (.str z) (.str z)
  | tup {t : Addr} {n : Int} (e : H t = some (.tup [.int n, .int 7])) : El H (.ref t) (.tuple [.int n, .int 7])
inductive Els (H : Hp) : List V → List PyData → Prop
  | nil : Els H [] []
  | cons {x : V} {d : PyData} {xs : List V} {ds : List PyData} : El H x d → Els H xs ds → Els H (x :: xs) (d :: ds)
section
variable {K : PySem.W.Frag} {H H' : Hp}
theorem El.keep (g : ∀ b xs, H b = some (.tup xs) → H' b = some (.tup xs)) {x : V} {d : PyData} (h : El H x d) : El H' x d := by
  cases h with
  | int i => exact .int i
  | str ok => exact .str ok
  | tup e => exact .tup (g _ _ e)
theorem Els.keep (g : ∀ b xs, H b = some (.tup xs) → H' b = some (.tup xs)) : ∀ {xs : List V} {ds : List PyData}, Els H xs ds → Els H' xs ds
  | _, _, .nil => .nil
  | _, _, .cons a t => .cons (a.keep g) (t.keep g)
theorem Els.same (g : Same H H') {xs : List V} {ds : List PyData} (h : Els H xs ds) : Els H' xs ds := h.keep fun b xs e => g _ _ e
theorem Els.snoc {y : V} {e : PyData} (hy : El H y e) : ∀ {xs : List V} {ds : List PyData}, Els H xs ds → Els H (xs ++ [y]) (ds ++ [e])
  | _, _, .nil => .cons hy .nil
  | _, _, .cons a t => .cons a (t.snoc hy)
theorem El.dt {x : V} {d : PyData} (h : El H x d) : Dt K H x d ∧ d.canLay0 = true ∧ d.depth ≤ 3 := by
  cases h with
  | int i => exact ⟨.int i, by simp [PyData.canLay0], by simp [PyData.depth]⟩
  | str ok => exact ⟨.str _, by simp [PyData.canLay0, ok], by simp [PyData.depth]⟩
  | tup e => exact ⟨.tup (SqT.of e) (.cons (.int _) (.cons (.int _) .nil)), by simp [PyData.canLay0, PyData.canLayAll0], by simp [PyData.depth, PyData.depthAll]⟩
theorem Els.dts : ∀ {xs : List V} {ds : List PyData}, Els H xs ds → Dts K H xs ds ∧ PyData.canLayAll0 ds = true ∧ PyData.depthAll ds ≤ 3
  | _, _, .nil => ⟨.nil, by simp [PyData.canLayAll0], by simp [PyData.depthAll]⟩
  | _, _, .cons a t => by
    obtain ⟨a1, a2, a3⟩ := a.dt (K := K)
    obtain ⟨t1, t2, t3⟩ := t.dts
    exact ⟨.cons a1 t1, by simp [PyData.canLayAll0, a2, t2], by simp only [PyData.depthAll]; omega⟩
theorem Els.list {p : Addr} {xs : List V} {ds : List PyData} (h : Els H xs ds) (e : H p = some (.lst xs)) : Dt K H (.ref p) (.list ds) ∧ (PyData.list ds).canLay0 = true ∧ (PyData.list ds).depth ≤ 20 := by
  obtain ⟨a, b, c⟩ := h.dts (K := K)
  exact ⟨.lst (SqL.of e) a, by simp [PyData.canLay0, b], by simp only [PyData.depth]; omega⟩
end
end L2
set_option Elab.async false
set_option linter.all false
set_option maxRecDepth 100000
set_option maxHeartbeats 4000000
namespace Pw
open PySem L2
seal PySem.Sem.wp
def top (i : Nat) : Stmt := PySem.Challenge.pw_padwright_k19_refusals_with_fields.main.body.getD i (.Pass ⟨0, 0, 0, 0⟩)
abbrev s_TwoValues___init__ : Stmt := inClass (top 13) 0
theorem sc_TwoValues___init__ : FnScope ["self", "told"] ["self", "told"] (defScope s_TwoValues___init__) := ⟨rfl, rfl, rfl, by decide +kernel, rfl, by decide +kernel, by decide +kernel⟩
abbrev s_NoForm___init__ : Stmt := inClass (top 14) 0
theorem sc_NoForm___init__ : FnScope ["self", "at"] ["self", "at"] (defScope s_NoForm___init__) := ⟨rfl, rfl, rfl, by decide +kernel, rfl, by decide +kernel, by decide +kernel⟩
abbrev s_NoLine___init__ : Stmt := inClass (top 15) 0
theorem sc_NoLine___init__ : FnScope ["self", "at"] ["self", "at"] (defScope s_NoLine___init__) := ⟨rfl, rfl, rfl, by decide +kernel, rfl, by decide +kernel, by decide +kernel⟩
abbrev s_TooMany___init__ : Stmt := inClass (top 16) 0
theorem sc_TooMany___init__ : FnScope ["self", "number"] ["self", "number"] (defScope s_TooMany___init__) := ⟨rfl, rfl, rfl, by decide +kernel, rfl, by decide +kernel, by decide +kernel⟩
abbrev s_TwoRows___init__ : Stmt := inClass (top 17) 0
theorem sc_TwoRows___init__ : FnScope ["self", "at", "one", "other"] ["self", "at", "one", "other"] (defScope s_TwoRows___init__) := ⟨rfl, rfl, rfl, by decide +kernel, rfl, by decide +kernel, by decide +kernel⟩
abbrev s_law_cell : Stmt := top 19
theorem sc_law_cell : FnScope ["_law_script", "_law_k"] ["_law_script", "_law_k"] (defScope s_law_cell) := ⟨rfl, rfl, rfl, by decide +kernel, rfl, by decide +kernel, by decide +kernel⟩
abbrev s_law_draw : Stmt := top 20
theorem sc_law_draw : FnScope ["_law_cell_here", "_law_salt", "_law_many", "_law_one", "_law_two"] ["_law_cell_here", "_law_salt", "_law_many"] (defScope s_law_draw) := ⟨rfl, rfl, rfl, by decide +kernel, rfl, by decide +kernel, by decide +kernel⟩
abbrev s_law_whole : Stmt := top 21
theorem sc_law_whole : FnScope ["_law_found"] ["_law_found"] (defScope s_law_whole) := ⟨rfl, rfl, rfl, by decide +kernel, rfl, by decide +kernel, by decide +kernel⟩
abbrev s_law_flags : Stmt := top 22
theorem sc_law_flags : FnScope ["_law_e", "_law_flags_here"] ["_law_e"] (defScope s_law_flags) := ⟨rfl, rfl, rfl, by decide +kernel, rfl, by decide +kernel, by decide +kernel⟩
abbrev s_law_plain : Stmt := top 23
theorem sc_law_plain : FnScope ["_law_bare", "_law_some"] ["_law_bare"] (defScope s_law_plain) := ⟨rfl, rfl, rfl, by decide +kernel, rfl, by decide +kernel, by decide +kernel⟩
abbrev s_law_list : Stmt := top 24
theorem sc_law_list : FnScope ["_law_script", "_law_k", "_law_cell_here", "_law_found", "_law_j", "_law_number"] ["_law_script", "_law_k"] (defScope s_law_list) := ⟨rfl, rfl, rfl, by decide +kernel, rfl, by decide +kernel, by decide +kernel⟩
abbrev s_law_made : Stmt := top 25
theorem sc_law_made : FnScope ["_law_script", "_law_k", "_law_one", "_law_other", "_law_third", "_law_counts", "_law_made_here", "_law_due", "_law_some"] ["_law_script", "_law_k"] (defScope s_law_made) := ⟨rfl, rfl, rfl, by decide +kernel, rfl, by decide +kernel, by decide +kernel⟩
abbrev s_law_is_list : Stmt := top 26
theorem sc_law_is_list : FnScope ["_law_found", "_law_due"] ["_law_found", "_law_due"] (defScope s_law_is_list) := ⟨rfl, rfl, rfl, by decide +kernel, rfl, by decide +kernel, by decide +kernel⟩
abbrev s_law_fields : Stmt := top 27
theorem sc_law_fields : FnScope ["_law_made_here", "_law_due", "_law_places", "_law_found"] ["_law_made_here", "_law_due"] (defScope s_law_fields) := ⟨rfl, rfl, rfl, by decide +kernel, rfl, by decide +kernel, by decide +kernel⟩
abbrev s_law : Stmt := top 28
theorem sc_law : FnScope ["_law_script", "_law_made_here", "_law_due", "_law_others", "_law_dues", "_law_every", "_law_k"] ["_law_script"] (defScope s_law) := ⟨rfl, rfl, rfl, by decide +kernel, rfl, by decide +kernel, by decide +kernel⟩
structure Blt (mg : Str → Option Value) : Prop where
  z_list : mg "list" = none
  z_len : mg "len" = none
  z_isinstance : mg "isinstance" = none
  z_bool : mg "bool" = none
  z_int : mg "int" = none
  z_range : mg "range" = none
  z_ValueError : mg "ValueError" = none
structure Zs (K : PySem.W.Frag) (mg : Str → Option Value) (c_NoNumber c_NoFigures c_NoGroups c_NoBody c_NoCore c_NoValue c_TooGreat c_TooWide c_NoText c_NoSheet c_NoRow c_TwoValues c_NoForm c_NoLine c_TooMany c_TwoRows c_PadError : Addr) : Prop where
  m_NoNumber : mg "NoNumber" = some (.ref c_NoNumber)
  m_NoFigures : mg "NoFigures" = some (.ref c_NoFigures)
  m_NoGroups : mg "NoGroups" = some (.ref c_NoGroups)
  m_NoBody : mg "NoBody" = some (.ref c_NoBody)
  m_NoCore : mg "NoCore" = some (.ref c_NoCore)
  m_NoValue : mg "NoValue" = some (.ref c_NoValue)
  m_TooGreat : mg "TooGreat" = some (.ref c_TooGreat)
  m_TooWide : mg "TooWide" = some (.ref c_TooWide)
  m_NoText : mg "NoText" = some (.ref c_NoText)
  m_NoSheet : mg "NoSheet" = some (.ref c_NoSheet)
  m_NoRow : mg "NoRow" = some (.ref c_NoRow)
  m_TwoValues : mg "TwoValues" = some (.ref c_TwoValues)
  m_NoForm : mg "NoForm" = some (.ref c_NoForm)
  m_NoLine : mg "NoLine" = some (.ref c_NoLine)
  m_TooMany : mg "TooMany" = some (.ref c_TooMany)
  m_TwoRows : mg "TwoRows" = some (.ref c_TwoRows)
  m_PadError : mg "PadError" = some (.ref c_PadError)
  e_NoNumber : Exc K c_NoNumber
  k_NoNumber : PySem.W.keepIn K (.ref c_NoNumber) = true
  e_NoFigures : Exc K c_NoFigures
  k_NoFigures : PySem.W.keepIn K (.ref c_NoFigures) = true
  e_NoGroups : Exc K c_NoGroups
  k_NoGroups : PySem.W.keepIn K (.ref c_NoGroups) = true
  e_NoBody : Exc K c_NoBody
  k_NoBody : PySem.W.keepIn K (.ref c_NoBody) = true
  e_NoCore : Exc K c_NoCore
  k_NoCore : PySem.W.keepIn K (.ref c_NoCore) = true
  e_NoValue : Exc K c_NoValue
  k_NoValue : PySem.W.keepIn K (.ref c_NoValue) = true
  e_TooGreat : Exc K c_TooGreat
  k_TooGreat : PySem.W.keepIn K (.ref c_TooGreat) = true
  e_TooWide : Exc K c_TooWide
  k_TooWide : PySem.W.keepIn K (.ref c_TooWide) = true
  e_NoText : Exc K c_NoText
  k_NoText : PySem.W.keepIn K (.ref c_NoText) = true
  e_NoSheet : Exc K c_NoSheet
  k_NoSheet : PySem.W.keepIn K (.ref c_NoSheet) = true
  e_NoRow : Exc K c_NoRow
  k_NoRow : PySem.W.keepIn K (.ref c_NoRow) = true
  e_PadError : Exc K c_PadError
  k_PadError : PySem.W.keepIn K (.ref c_PadError) = true
  b_TwoValues : ExcB K c_TwoValues
  b_NoForm : ExcB K c_NoForm
  b_NoLine : ExcB K c_NoLine
  b_TooMany : ExcB K c_TooMany
  b_TwoRows : ExcB K c_TwoRows
  x_TwoValues_told : ∃ f, ExF K c_TwoValues f "told"
  x_NoForm_at : ∃ f, ExF K c_NoForm f "at"
  x_NoLine_at : ∃ f, ExF K c_NoLine f "at"
  x_TooMany_number : ∃ f, ExF K c_TooMany f "number"
  x_TwoRows_at : ∃ f, ExF K c_TwoRows f "at"
  x_TwoRows_one : ∃ f, ExF K c_TwoRows f "one"
  x_TwoRows_other : ∃ f, ExF K c_TwoRows f "other"
  pi : PIni K c_PadError
  kt : kitT K [c_NoNumber, c_NoFigures, c_NoGroups, c_NoBody, c_NoCore, c_NoValue, c_TooGreat, c_TooWide, c_NoText, c_NoSheet, c_NoRow, c_TwoValues, c_NoForm, c_NoLine, c_TooMany, c_TwoRows] = true
  kp : kitP K [c_NoNumber, c_NoFigures, c_NoGroups, c_NoBody, c_NoCore, c_NoValue, c_TooGreat, c_TooWide, c_NoText, c_NoSheet, c_NoRow, c_TwoValues, c_NoForm, c_NoLine, c_TooMany, c_TwoRows] c_PadError = true
section
variable {P : Program} {w : World} {K : PySem.W.Frag} {mg : Str → Option Value} {base : Heap}
local macro_rules | `(tactic| walk_at "sd") => `(tactic| first | omega | (unfold CPos; omega) | (unfold CNn; omega) | (unfold CNz; omega) | (unfold CDivB GL; omega) | (unfold CDivS GL; omega) | (unfold CMulA CMul CMulB GL; omega))
local macro_rules | `(tactic| walk_at "hp") => `(tactic| first | assumption | (refine Same.at (by assumption) ?_; walk_at "hp") | exact upd_same)
local macro_rules | `(tactic| walk_at "sq") => `(tactic| first | assumption | (refine Same.seq (by assumption) ?_; walk_at "sq") | exact SqL.of (by walk_at "hp"))
local macro_rules | `(tactic| walk_at "sm") => `(tactic| first | assumption | exact Same.refl _ | (refine Same.trans ?_ (by assumption); walk_at "sm"))
local macro_rules | `(tactic| walk_at "rdc") => `(tactic| fail "no callee")
local macro_rules | `(tactic| walk_at "rd1") => `(tactic| first
  | (with_reducible refine r_seq ?_)
  | (with_reducible refine r_asg ?_)
  | (with_reducible refine r_ifS ?_)
  | (with_reducible refine r_ret ?_)
  | (with_reducible refine r_next ?_)
  | (with_reducible refine r_name ?_)
  | ((with_reducible refine' r_var ?e ?_); (case e => rfl))
  | (with_reducible refine r_c ?_)
  | (with_reducible refine r_op ?_)
  | (with_reducible refine r_I0 ?_)
  | ((with_reducible refine' r_I ?hc ?_); (case hc => walk_at "sd"))
  | (with_reducible refine r_test ?_)
  | (with_reducible refine r_tB ?_)
  | (with_reducible refine r_exbl ?_)
  | (with_reducible refine r_eqI ?_)
  | (with_reducible refine r_neI ?_)
  | (with_reducible refine iteT ?_)
  | (with_reducible refine iteF ?_)
  | (with_reducible refine i_nT ?_)
  | (with_reducible refine i_nF ?_)
  | ((with_reducible refine' i_dP ?hc ?_); (case hc => omega))
  | ((with_reducible refine' i_dN ?hc ?_); (case hc => omega))
  | ((with_reducible refine' i_ndP ?hc ?_); (case hc => omega))
  | ((with_reducible refine' i_ndN ?hc ?_); (case hc => omega))
  | (with_reducible refine i_d (fun hc => ?_) (fun hc => ?_))
  | (with_reducible refine i_nd (fun hc => ?_) (fun hc => ?_))
  | (with_reducible refine i_b (fun hc => ?_) (fun hc => ?_))
  | (with_reducible refine r_cons ?_)
  | (with_reducible refine r_nil ?_)
  | (with_reducible refine r_call ?_)
  | (with_reducible refine r_cb ?_)
  | (with_reducible refine r_un ?_)
  | (with_reducible refine r_U ?_)
  | (with_reducible refine r_and ?_)
  | (with_reducible refine r_or ?_)
  | (with_reducible refine r_not ?_)
  | (with_reducible refine r_andV ?_)
  | (with_reducible refine r_orV ?_)
  | (with_reducible refine r_notV ?_)
  | (with_reducible refine r_chain ?_)
  | (with_reducible refine r_tup ?_)
  | (with_reducible refine r_lst ?_)
  | ((with_reducible refine' r_kTup ?hz ?_); (case hz => exact small (by simp only [List.length_cons, List.length_nil]; decide)); intro p' H' g' e')
  | ((with_reducible refine' r_kLst ?hz ?_); (case hz => exact small (by simp only [List.length_cons, List.length_nil]; decide)); intro p' H' g' e')
  | (with_reducible refine r_isi_ii ?_)
  | (with_reducible refine r_isi_ib ?_)
  | (with_reducible refine r_isi_bb ?_)
  | (with_reducible refine r_isi_bi ?_)
  | ((with_reducible refine' r_isi_tt ?h ?_); (case h => walk_at "hp"))
  | ((with_reducible refine' r_ixT ?h ?e ?_); (case h => walk_at "hp"); (case e => rfl))
  | ((with_reducible refine' r_ix2 ?h ?hi (fun hi' => ?_) (fun hi' => ?_)); (case h => walk_at "hp"); (case hi => omega))
  | (with_reducible refine r_absA (fun k' hk' => ?_))
  | (with_reducible refine r_max2A (fun k' hk' => ?_))
  | (with_reducible refine r_min2A (fun k' hk' => ?_))
  | (with_reducible refine r_int1i ?_)
  | (with_reducible refine r_int1d (fun hc => ?_) (fun hc => ?_))
  | (with_reducible refine r_int1b ?_)
  | ((with_reducible refine' r_lenT2 ?h ?_); (case h => walk_at "hp"))
  | ((with_reducible refine' r_lenT ?h ?_); (case h => walk_at "hp"))
  | ((with_reducible refine' r_lenL ?h ?_); (case h => walk_at "sq"))
  | (with_reducible refine r_par ?_)
  | (with_reducible refine r_two ?_)
  | (with_reducible refine r_exN ?_)
  | (with_reducible refine r_forL ?_)
  | (with_reducible refine r_forR ?_)
  | ((with_reducible refine' r_gTup ?h ?n ?_); (case h => walk_at "hp"); (case n => rfl))
  | (with_reducible refine r_gCons ?_)
  | (with_reducible refine r_gNil ?_)
  | (with_reducible refine r_drop ?_)
  | (with_reducible refine r_retN ?_)
  | (with_reducible refine r_eqB ?_)
  | walk_at "rdc"
  | fail "rd stops")
local macro_rules | `(tactic| walk_at "rd") => `(tactic| repeat' walk_at "rd1")
local macro_rules | `(tactic| walk_at "st") => `(tactic| dsimp only [L2.start, List.map, List.length, List.replicate, List.append, HAppend.hAppend, Append.append, Nat.reduceAdd, Nat.reduceSub])
local macro_rules | `(tactic| walk_at "rdc") => `(tactic| first
  | (with_reducible refine r_slice ?_)
  | (with_reducible refine r_noPart ?_)
  | (with_reducible refine r_part ?_)
  | (with_reducible refine r_exint ?_)
  | (with_reducible refine r_compL ?_)
  | (with_reducible refine r_compR ?_)
  | (with_reducible refine r_noIf ?_)
  | (with_reducible refine r_ifE ?_)
  | ((with_reducible refine' r_slL ?h ?_); (case h => walk_at "sq"); intro p' H' g' e')
  | ((with_reducible refine' r_eqS (b := true) ?e ?_); (case e => exact decide_eq_true rfl))
  | ((with_reducible refine' r_eqS (b := false) ?e ?_); (case e => exact (by decide +kernel)))
  | fail "rd2 stops")
local macro_rules | `(tactic| walk_at "tl") => `(tactic| first | omega | (simp only [Lt_T, List.length_append, List.length_replicate, List.length_cons, List.length_nil, List.length_take, List.length_drop]; omega) | (with_unfolding_all decide))
local macro_rules | `(tactic| walk_at "rdc") => `(tactic| first
  | ((with_reducible refine' rTT_add ?hz ?_); (case hz => walk_at "tl"))
  | ((with_reducible refine' rTS_add ?hz ?_); (case hz => walk_at "tl"))
  | ((with_reducible refine' rST_add ?hz ?_); (case hz => walk_at "tl"))
  | ((with_reducible refine' rT_add ?hz ?_); (case hz => walk_at "tl"))
  | ((with_reducible refine' rTT_len ?hz ?_); (case hz => walk_at "tl"))
  | ((with_reducible refine' rT_len ?hz ?_); (case hz => walk_at "tl"))
  | ((with_reducible refine' rT_ixK (z := Str.ofString _) 94 ?hn ?hz ?h0 ?h1 ?_); (case hn => decide +kernel); (case hz => decide); (case h0 => omega); (case h1 => omega); intro c' hc')
  | ((with_reducible refine' rT_ixK (z := Str.ofString _) 16 ?hn ?hz ?h0 ?h1 ?_); (case hn => decide +kernel); (case hz => decide); (case h0 => omega); (case h1 => omega); intro c' hc')
  | ((with_reducible refine' rT_ixK (z := Str.ofString _) 8 ?hn ?hz ?h0 ?h1 ?_); (case hn => decide +kernel); (case hz => decide); (case h0 => omega); (case h1 => omega); intro c' hc')
  | ((with_reducible refine' rT_ixK (z := Str.ofString _) 32 ?hn ?hz ?h0 ?h1 ?_); (case hn => decide +kernel); (case hz => decide); (case h0 => omega); (case h1 => omega); intro c' hc')
  | ((with_reducible refine' rT_ixK (z := Str.ofString _) 13 ?hn ?hz ?h0 ?h1 ?_); (case hn => decide +kernel); (case hz => decide); (case h0 => omega); (case h1 => omega); intro c' hc')
  | ((with_reducible refine' rT_ixK (z := Str.ofString _) 17 ?hn ?hz ?h0 ?h1 ?_); (case hn => decide +kernel); (case hz => decide); (case h0 => omega); (case h1 => omega); intro c' hc')
  | ((with_reducible refine' rT_ixK (z := Str.ofString _) 5 ?hn ?hz ?h0 ?h1 ?_); (case hn => decide +kernel); (case hz => decide); (case h0 => omega); (case h1 => omega); intro c' hc')
  | ((with_reducible refine' rTT_ix ?hz ?h0 ?h1 ?_); (case hz => walk_at "tl"); (case h0 => omega); (case h1 => walk_at "tl"))
  | ((with_reducible refine' rT_ix ?hz ?h0 ?h1 ?_); (case hz => walk_at "tl"); (case h0 => omega); (case h1 => walk_at "tl"))
  | ((with_reducible refine' rTT_ixL ?hz ?h1 ?_); (case hz => walk_at "tl"); (case h1 => walk_at "tl"))
  | ((with_reducible refine' rTT_sl0 ?hz ?h0 ?_); (case hz => walk_at "tl"); (case h0 => omega))
  | ((with_reducible refine' rTT_sli ?hz ?h0 ?_); (case hz => walk_at "tl"); (case h0 => omega))
  | ((with_reducible refine' rTT_slij ?hz ?h0 ?h1 ?_); (case hz => walk_at "tl"); (case h0 => omega); (case h1 => omega))
  | ((with_reducible refine' rT_mul1 ?h0 ?h1 ?_); (case h0 => omega); (case h1 => omega))
  | (with_reducible refine r_isi_ss ?_)
  | ((with_reducible refine' r_eqS (b := true) ?e ?_); (case e => exact decide_eq_true rfl))
  | ((with_reducible refine' r_eqS (b := false) ?e ?_); (case e => exact (by decide +kernel)))
  | ((with_reducible refine' r_neS (b := true) ?e ?_); (case e => exact decide_eq_true rfl))
  | ((with_reducible refine' r_neS (b := false) ?e ?_); (case e => exact (by decide +kernel)))
  | (with_reducible refine rTT_eq ?_)
  | (with_reducible refine rTT_ne ?_)
  | (with_reducible refine r_eqT2 ?_)
  | (with_reducible refine r_neT2 ?_)
  | (with_reducible refine r_bmL ?_)
  | (with_reducible refine r_tyS ?_)
  | (with_reducible refine r_findT ?_)
  | fail "rd4 stops")
local macro_rules | `(tactic| walk_at "rdc") => `(tactic| first
  | ((with_reducible refine' r_isi_ll ?h ?_); (case h => walk_at "hp"))
  | ((with_reducible refine' r_eqLs ?h1 ?h2 ?_); (case h1 => walk_at "sq"); (case h2 => walk_at "sq"))
  | ((with_reducible refine' r_neLs ?h1 ?h2 ?_); (case h1 => walk_at "sq"); (case h2 => walk_at "sq"))
  | ((with_reducible refine' r_inTs ?h ?_); (case h => walk_at "sq"))
  | ((with_reducible refine' r_ninTs ?h ?_); (case h => walk_at "sq"))
  | ((with_reducible refine' r_ixTsL ?h ?h0 ?_); (case h => walk_at "sq"); (case h0 => omega))
  | ((with_reducible refine' rTT_slL ?hz ?_); (case hz => walk_at "tl"))
  | ((with_reducible refine' r_listOf ?h ?_); (case h => walk_at "sq"); intro l' H' g' n' e')
  | (with_reducible refine r_startT ?_)
  | ((with_reducible refine' r_tyLL ?h ?_); (case h => walk_at "sq"))
  | (with_reducible refine r_bm0 ?_)
  | fail "rd12 stops")
def sp_law_cell (K : PySem.W.Frag) : Sp := fun vs H Q _ => ∃ (a : Addr) (ns : List Int) (k : Int), vs = [.ref a, .int k] ∧ SqL K H a (ns.map V.int) ∧ 0 ≤ k ∧ ∀ v : Int, Q (.int v) H
theorem c_cell {K : PySem.W.Frag} {a : Addr} {ns : List Int} {k : Int} {H : Hp} {Q : VK} {E : XK} (h1 : SqL K H a (ns.map V.int)) (h2 : 0 ≤ k) (q : ∀ v : Int, Q (.int v) H) : sp_law_cell K ([.ref a, .int k] ++ []) H Q E := ⟨a, ns, k, rfl, h1, h2, q⟩
def sp_law_draw (K : PySem.W.Frag) : Sp := fun vs H Q _ => ∃ c t m : Int, vs = [.int c, .int t, .int m] ∧ 0 ≤ t ∧ 0 < m ∧ ∀ v : Int, 0 ≤ v → v < m → Q (.int v) H
theorem c_draw {K : PySem.W.Frag} {c t m : Int} {H : Hp} {Q : VK} {E : XK} (h1 : 0 ≤ t) (h2 : 0 < m) (q : ∀ v : Int, 0 ≤ v → v < m → Q (.int v) H) : sp_law_draw K ([.int c, .int t, .int m] ++ []) H Q E := ⟨c, t, m, rfl, h1, h2, q⟩
def sp_law_whole (K : PySem.W.Frag) : Sp := fun vs H Q _ => ∃ i : Int, vs = [.int i] ∧ Q (.bl true) H
theorem c_whole {K : PySem.W.Frag} {i : Int} {H : Hp} {Q : VK} {E : XK} (q : Q (.bl true) H) : sp_law_whole K ([.int i] ++ []) H Q E := ⟨i, rfl, q⟩
local macro_rules | `(tactic| walk_at "rdc") => `(tactic| ((with_reducible refine' c_draw ?h1 ?h2 ?_); (case h1 => omega); (case h2 => omega); intro v' h0' h1'))
local macro_rules | `(tactic| walk_at "rdc") => `(tactic| ((with_reducible refine' c_cell ?h1 ?h2 ?_); (case h1 => walk_at "sq"); (case h2 => omega); intro v'))
local macro_rules | `(tactic| walk_at "rdc") => `(tactic| (with_reducible refine c_whole ?_))
local macro_rules | `(tactic| walk_at "rdc") => `(tactic| first
  | (with_reducible refine r_pini ?_)
  | (with_reducible refine r_x1 ?_)
  | (with_reducible refine r_x2 ?_)
  | (with_reducible refine r_fsK ?_)
  | ((with_reducible refine' r_kFs ?h0 ?h1 ?_); (case h0 => omega); (case h1 => omega); intro z')
  | (with_reducible refine r_exc ?_)
  | ((with_reducible refine' r_kExc ?hl ?_); (case hl => (simp only [List.length_cons, List.length_nil]; omega)); intro y' H' g' e')
  | (with_reducible refine r_excI ?_)
  | (with_reducible refine r_xf ?_)
  | fail "k19 stops")
def sp_TwoValues___init__ (K : PySem.W.Frag) (C : Addr) : Sp := fun vs H Q _ => ∃ (y l : Addr) (xs : List V), vs = [.ref y, .ref l] ∧ H y = some (.ext (ExN y C)) ∧ H l = some (.lst xs) ∧ ∀ H' l', SB y H H' → H l' = none → H' l' = some (.lst xs) → Fl H' y C "told" (.ref l') → Q .non H'
def spAt (C : Addr) (z : Str) : Sp := fun vs H Q _ => ∃ (y : Addr) (n : Int), vs = [.ref y, .int n] ∧ H y = some (.ext (ExN y C)) ∧ 0 ≤ n ∧ n < 1000000 ∧ ∀ H', SB y H H' → Fl H' y C z (.int n) → Q .non H'
def sp_NoForm___init__ (K : PySem.W.Frag) (C : Addr) : Sp := spAt C "at"
def sp_NoLine___init__ (K : PySem.W.Frag) (C : Addr) : Sp := spAt C "at"
def sp_TooMany___init__ (K : PySem.W.Frag) (C : Addr) : Sp := spAt C "number"
def sp_TwoRows___init__ (K : PySem.W.Frag) (C : Addr) : Sp := fun vs H Q _ => ∃ (y l r : Addr) (xs ys : List V) (n : Int), vs = [.ref y, .int n, .ref l, .ref r] ∧ H y = some (.ext (ExN y C)) ∧ 0 ≤ n ∧ n < 1000000 ∧ H l = some (.lst xs) ∧ H r = some (.lst ys) ∧
  ∀ H' l' r', SB y H H' → H l' = none → H r' = none → H' l' = some (.lst xs) → H' r' = some (.lst ys) → Fl H' y C "at" (.int n) → Fl H' y C "one" (.ref l') → Fl H' y C "other" (.ref r') → Q .non H'
theorem sb_x1 {H : Hp} {y d : Addr} {o p : HO} (fr : H d = none) : SB y H (upd (upd H d o) y p) := fun b u n e => by rw [upd_ne n, upd_ne (ne_of_none e fr)]; exact e
theorem ok_TwoValues___init__ {f : Addr} {fd : FuncData} (F : FunD K "__init__" "TwoValues.__init__" s_TwoValues___init__ f fd) (B : Blt mg) {c_NoNumber : Addr} {c_NoFigures : Addr} {c_NoGroups : Addr} {c_NoBody : Addr} {c_NoCore : Addr} {c_NoValue : Addr} {c_TooGreat : Addr} {c_TooWide : Addr} {c_NoText : Addr} {c_NoSheet : Addr} {c_NoRow : Addr} {c_TwoValues : Addr} {c_NoForm : Addr} {c_NoLine : Addr} {c_TooMany : Addr} {c_TwoRows : Addr} {c_PadError : Addr} (Z : Zs K mg c_NoNumber c_NoFigures c_NoGroups c_NoBody c_NoCore c_NoValue c_TooGreat c_TooWide c_NoText c_NoSheet c_NoRow c_TwoValues c_NoForm c_NoLine c_TooMany c_TwoRows c_PadError) : FnOk P w K mg base CX0 1 f fd ["self", "told"] (sp_TwoValues___init__ K c_TwoValues) := by
  refine F.ok sc_TwoValues___init__ (fun vs H Q E h => ?_) (fun cdv A outer s H vs Q E hr h => ?_)
  · obtain ⟨y, l, xs, rfl, hy, hl, q⟩ := h
    rfl
  obtain ⟨y, l, xs, rfl, hy, hl, q⟩ := h
  refine ⟨_, pss_cons (ps_expr (pe_pini Z.pi rfl Z.m_PadError (pa_cons (pv 0) (pa_cons (pe_str) (pa_nil)))))
    (pss_one (ps_xf1 (pv 0) (pe_callTy call_listOf rfl B.z_list bo_list (pa_cons (pv 1) (pa_nil))) rfl)), ?_⟩
  walk_at "st"
  walk_at "rd"
  refine r_kPIni hy Z.x_TwoValues_told ?_
  walk_at "rd"
  rename_i l' H' g' n' e'
  refine r_kX1 (g'.at hy) Z.x_TwoValues_told fun d fr => ?_
  have nd : d ≠ y := (ne_of_none (g'.at hy) fr).symm
  have nl : l' ≠ y := fun z => by subst z; rw [g'.at hy] at e'; cases e'
  walk_at "rd"
  refine q _ l' (fun b o nb e => by rw [upd_ne nb, upd_ne (ne_of_none (g'.at e) fr)]; exact g'.at e) n' (by rw [upd_ne nl, upd_ne (ne_of_none e' fr)]; exact e') ⟨d, _, upd_same, by rw [upd_ne nd, upd_same], lk_eq⟩
theorem ok_NoForm___init__ {f : Addr} {fd : FuncData} (F : FunD K "__init__" "NoForm.__init__" s_NoForm___init__ f fd) (B : Blt mg) {c_NoNumber : Addr} {c_NoFigures : Addr} {c_NoGroups : Addr} {c_NoBody : Addr} {c_NoCore : Addr} {c_NoValue : Addr} {c_TooGreat : Addr} {c_TooWide : Addr} {c_NoText : Addr} {c_NoSheet : Addr} {c_NoRow : Addr} {c_TwoValues : Addr} {c_NoForm : Addr} {c_NoLine : Addr} {c_TooMany : Addr} {c_TwoRows : Addr} {c_PadError : Addr} (Z : Zs K mg c_NoNumber c_NoFigures c_NoGroups c_NoBody c_NoCore c_NoValue c_TooGreat c_TooWide c_NoText c_NoSheet c_NoRow c_TwoValues c_NoForm c_NoLine c_TooMany c_TwoRows c_PadError) : FnOk P w K mg base CX0 1 f fd ["self", "at"] (sp_NoForm___init__ K c_NoForm) := by
  refine F.ok sc_NoForm___init__ (fun vs H Q E h => ?_) (fun cdv A outer s H vs Q E hr h => ?_)
  · obtain ⟨y, n, rfl, hy, h0, h1, q⟩ := h
    rfl
  obtain ⟨y, n, rfl, hy, h0, h1, q⟩ := h
  refine ⟨_, pss_cons (ps_expr (pe_pini Z.pi rfl Z.m_PadError (pa_cons (pv 0) (pa_cons (pe_fs3 (pv 1) (by decide +kernel) (by decide +kernel)) (pa_nil)))))
    (pss_one (ps_xf1 (pv 0) (pv 1) rfl)), ?_⟩
  walk_at "st"
  walk_at "rd"
  refine r_kPIni hy Z.x_NoForm_at ?_
  walk_at "rd"
  refine r_kX1 hy Z.x_NoForm_at fun d fr => ?_
  have nd : d ≠ y := (ne_of_none hy fr).symm
  walk_at "rd"
  exact q _ (sb_x1 fr) ⟨d, _, upd_same, by rw [upd_ne nd, upd_same], lk_eq⟩
theorem ok_NoLine___init__ {f : Addr} {fd : FuncData} (F : FunD K "__init__" "NoLine.__init__" s_NoLine___init__ f fd) (B : Blt mg) {c_NoNumber : Addr} {c_NoFigures : Addr} {c_NoGroups : Addr} {c_NoBody : Addr} {c_NoCore : Addr} {c_NoValue : Addr} {c_TooGreat : Addr} {c_TooWide : Addr} {c_NoText : Addr} {c_NoSheet : Addr} {c_NoRow : Addr} {c_TwoValues : Addr} {c_NoForm : Addr} {c_NoLine : Addr} {c_TooMany : Addr} {c_TwoRows : Addr} {c_PadError : Addr} (Z : Zs K mg c_NoNumber c_NoFigures c_NoGroups c_NoBody c_NoCore c_NoValue c_TooGreat c_TooWide c_NoText c_NoSheet c_NoRow c_TwoValues c_NoForm c_NoLine c_TooMany c_TwoRows c_PadError) : FnOk P w K mg base CX0 1 f fd ["self", "at"] (sp_NoLine___init__ K c_NoLine) := by
  refine F.ok sc_NoLine___init__ (fun vs H Q E h => ?_) (fun cdv A outer s H vs Q E hr h => ?_)
  · obtain ⟨y, n, rfl, hy, h0, h1, q⟩ := h
    rfl
  obtain ⟨y, n, rfl, hy, h0, h1, q⟩ := h
  refine ⟨_, pss_cons (ps_expr (pe_pini Z.pi rfl Z.m_PadError (pa_cons (pv 0) (pa_cons (pe_fs3 (pv 1) (by decide +kernel) (by decide +kernel)) (pa_nil)))))
    (pss_one (ps_xf1 (pv 0) (pv 1) rfl)), ?_⟩
  walk_at "st"
  walk_at "rd"
  refine r_kPIni hy Z.x_NoLine_at ?_
  walk_at "rd"
  refine r_kX1 hy Z.x_NoLine_at fun d fr => ?_
  have nd : d ≠ y := (ne_of_none hy fr).symm
  walk_at "rd"
  exact q _ (sb_x1 fr) ⟨d, _, upd_same, by rw [upd_ne nd, upd_same], lk_eq⟩
theorem ok_TooMany___init__ {f : Addr} {fd : FuncData} (F : FunD K "__init__" "TooMany.__init__" s_TooMany___init__ f fd) (B : Blt mg) {c_NoNumber : Addr} {c_NoFigures : Addr} {c_NoGroups : Addr} {c_NoBody : Addr} {c_NoCore : Addr} {c_NoValue : Addr} {c_TooGreat : Addr} {c_TooWide : Addr} {c_NoText : Addr} {c_NoSheet : Addr} {c_NoRow : Addr} {c_TwoValues : Addr} {c_NoForm : Addr} {c_NoLine : Addr} {c_TooMany : Addr} {c_TwoRows : Addr} {c_PadError : Addr} (Z : Zs K mg c_NoNumber c_NoFigures c_NoGroups c_NoBody c_NoCore c_NoValue c_TooGreat c_TooWide c_NoText c_NoSheet c_NoRow c_TwoValues c_NoForm c_NoLine c_TooMany c_TwoRows c_PadError) : FnOk P w K mg base CX0 1 f fd ["self", "number"] (sp_TooMany___init__ K c_TooMany) := by
  refine F.ok sc_TooMany___init__ (fun vs H Q E h => ?_) (fun cdv A outer s H vs Q E hr h => ?_)
  · obtain ⟨y, n, rfl, hy, h0, h1, q⟩ := h
    rfl
  obtain ⟨y, n, rfl, hy, h0, h1, q⟩ := h
  refine ⟨_, pss_cons (ps_expr (pe_pini Z.pi rfl Z.m_PadError (pa_cons (pv 0) (pa_cons (pe_fs2 (pv 1) (by decide +kernel)) (pa_nil)))))
    (pss_one (ps_xf1 (pv 0) (pv 1) rfl)), ?_⟩
  walk_at "st"
  walk_at "rd"
  refine r_kPIni hy Z.x_TooMany_number ?_
  walk_at "rd"
  refine r_kX1 hy Z.x_TooMany_number fun d fr => ?_
  have nd : d ≠ y := (ne_of_none hy fr).symm
  walk_at "rd"
  exact q _ (sb_x1 fr) ⟨d, _, upd_same, by rw [upd_ne nd, upd_same], lk_eq⟩
theorem ok_TwoRows___init__ {f : Addr} {fd : FuncData} (F : FunD K "__init__" "TwoRows.__init__" s_TwoRows___init__ f fd) (B : Blt mg) {c_NoNumber : Addr} {c_NoFigures : Addr} {c_NoGroups : Addr} {c_NoBody : Addr} {c_NoCore : Addr} {c_NoValue : Addr} {c_TooGreat : Addr} {c_TooWide : Addr} {c_NoText : Addr} {c_NoSheet : Addr} {c_NoRow : Addr} {c_TwoValues : Addr} {c_NoForm : Addr} {c_NoLine : Addr} {c_TooMany : Addr} {c_TwoRows : Addr} {c_PadError : Addr} (Z : Zs K mg c_NoNumber c_NoFigures c_NoGroups c_NoBody c_NoCore c_NoValue c_TooGreat c_TooWide c_NoText c_NoSheet c_NoRow c_TwoValues c_NoForm c_NoLine c_TooMany c_TwoRows c_PadError) : FnOk P w K mg base CX0 1 f fd ["self", "at", "one", "other"] (sp_TwoRows___init__ K c_TwoRows) := by
  refine F.ok sc_TwoRows___init__ (fun vs H Q E h => ?_) (fun cdv A outer s H vs Q E hr h => ?_)
  · obtain ⟨y, l, r, xs, ys, n, rfl, hy, h0, h1, hl, hr0, q⟩ := h
    rfl
  obtain ⟨y, l, r, xs, ys, n, rfl, hy, h0, h1, hl, hr0, q⟩ := h
  refine ⟨_, pss_cons (ps_expr (pe_pini Z.pi rfl Z.m_PadError (pa_cons (pv 0) (pa_cons (pe_fs3 (pv 1) (by decide +kernel) (by decide +kernel)) (pa_nil)))))
    (pss_cons (ps_xf1 (pv 0) (pv 1) rfl)
    (pss_cons (ps_xf2 (pv 0) (pe_callTy call_listOf rfl B.z_list bo_list (pa_cons (pv 2) (pa_nil))) rfl)
    (pss_one (ps_xf2 (pv 0) (pe_callTy call_listOf rfl B.z_list bo_list (pa_cons (pv 3) (pa_nil))) rfl)))), ?_⟩
  walk_at "st"
  walk_at "rd"
  refine r_kPIni hy Z.x_TwoRows_at ?_
  walk_at "rd"
  refine r_kX1 hy Z.x_TwoRows_at fun d fr => ?_
  have nd : d ≠ y := (ne_of_none hy fr).symm
  have nl : l ≠ y := fun z => by subst z; rw [hl] at hy; cases hy
  have nr : r ≠ y := fun z => by subst z; rw [hr0] at hy; cases hy
  have hl1 : (upd (upd H d (.ext (XD d [("at", .int n)]))) y (.ext (ExD y c_TwoRows d))) l = some (.lst xs) := by rw [upd_ne nl, upd_ne (ne_of_none hl fr)]; exact hl
  have hr1 : (upd (upd H d (.ext (XD d [("at", .int n)]))) y (.ext (ExD y c_TwoRows d))) r = some (.lst ys) := by rw [upd_ne nr, upd_ne (ne_of_none hr0 fr)]; exact hr0
  have e1 : (upd (upd H d (.ext (XD d [("at", .int n)]))) y (.ext (ExD y c_TwoRows d))) y = some (.ext (ExD y c_TwoRows d)) := upd_same
  have d1 : (upd (upd H d (.ext (XD d [("at", .int n)]))) y (.ext (ExD y c_TwoRows d))) d = some (.ext (XD d [("at", .int n)])) := by rw [upd_ne nd, upd_same]
  have s1 : SB y H (upd (upd H d (.ext (XD d [("at", .int n)]))) y (.ext (ExD y c_TwoRows d))) := sb_x1 fr
  generalize upd (upd H d (.ext (XD d [("at", .int n)]))) y (.ext (ExD y c_TwoRows d)) = H1 at *
  have nld : l ≠ d := fun z => by subst z; rw [hl1] at d1; cases d1
  have nrd : r ≠ d := fun z => by subst z; rw [hr1] at d1; cases d1
  have fr1 : ∀ {b : Addr} {H2 : Hp}, (∀ c o, c ≠ y → c ≠ d → H c = some o → H2 c = some o) → H2 b = none → (∃ o, H2 y = some o) → H b = none := fun {b H2} k hn hy2 => by
    cases z : H b with
    | none => rfl
    | some o =>
      have ny : b ≠ y := fun q => by subst q; obtain ⟨o, e⟩ := hy2; rw [e] at hn; cases hn
      rw [k b o ny (ne_of_none z fr) z] at hn; cases hn
  walk_at "rd"
  rename_i l' H2 g2 n2 e2
  refine r_kX2 (g2.at e1) (g2.at d1) Z.x_TwoRows_one (by show 1 < 1000; decide) ?_
  rw [putF_ne (by decide +kernel), putF_nil]
  have hr2 : (upd H2 d (.ext (XD d [("at", .int n), ("one", .ref l')]))) r = some (.lst ys) := by rw [upd_ne nrd]; exact g2.at hr1
  have nl' : l' ≠ d := fun z => by subst z; rw [g2.at d1] at e2; cases e2
  have e3 : (upd H2 d (.ext (XD d [("at", .int n), ("one", .ref l')]))) l' = some (.lst xs) := by rw [upd_ne nl']; exact e2
  have y3 : (upd H2 d (.ext (XD d [("at", .int n), ("one", .ref l')]))) y = some (.ext (ExD y c_TwoRows d)) := by rw [upd_ne nd.symm]; exact g2.at e1
  have d3 : (upd H2 d (.ext (XD d [("at", .int n), ("one", .ref l')]))) d = some (.ext (XD d [("at", .int n), ("one", .ref l')])) := upd_same
  have s3 : ∀ c o, c ≠ y → c ≠ d → H c = some o → (upd H2 d (.ext (XD d [("at", .int n), ("one", .ref l')]))) c = some o := fun c o a b e => by rw [upd_ne b]; exact g2.at (s1 c o a e)
  generalize upd H2 d (.ext (XD d [("at", .int n), ("one", .ref l')])) = H3 at *
  walk_at "rd"
  rename_i r' H4 g4 n4 e4
  refine r_kX2 (g4.at y3) (g4.at d3) Z.x_TwoRows_other (by show 2 < 1000; decide) ?_
  rw [putF_ne (by decide +kernel), putF_ne (by decide +kernel), putF_nil]
  have nr' : r' ≠ d := fun z => by subst z; rw [g4.at d3] at e4; cases e4
  walk_at "rd"
  refine q _ l' r' (fun b o nb e => ?_) (fr1 (fun c o a _ e => s1 c o a e) n2 ⟨_, e1⟩) (fr1 s3 n4 ⟨_, y3⟩) (by rw [upd_ne nl']; exact g4.at e3) (by rw [upd_ne nr']; exact e4) ⟨d, _, by rw [upd_ne nd.symm]; exact g4.at y3, upd_same, lk_eq⟩ ⟨d, _, by rw [upd_ne nd.symm]; exact g4.at y3, upd_same, (lk_ne (by decide +kernel)).trans lk_eq⟩ ⟨d, _, by rw [upd_ne nd.symm]; exact g4.at y3, upd_same, (lk_ne (by decide +kernel)).trans ((lk_ne (by decide +kernel)).trans lk_eq)⟩
  rw [upd_ne (ne_of_none e fr)]; exact g4.at (s3 b o nb (ne_of_none e fr) e)
local macro_rules | `(tactic| walk_at "rd1") => `(tactic| first | ((with_reducible refine' r_ixL ?h ?e ?_); (case h => walk_at "sq"); (case e => rfl)) | fail "no written place")
local macro_rules | `(tactic| walk_at "rd1") => `(tactic| first | ((with_reducible refine' r_kLstN ?hz ?_); (case hz => exact small (by simp only [List.length_cons, List.length_nil]; decide)); intro l' H' g' n' e') | fail "no new list")
def KL (S : List Addr) (H H' : Hp) : Prop := ∀ b o, b ∉ S → H b = some o → H' b = some o
def Ls (S : List Addr) (H : Hp) : Prop := ∀ a ∈ S, ∃ xs, H a = some (.lst xs)
theorem KL.fl {S : List Addr} {H H' : Hp} {x C : Addr} {z : Str} {v : V} (k : KL S H H') (l : Ls S H) (h : Fl H x C z v) : Fl H' x C z v := by
  obtain ⟨d, fs, a, b, c⟩ := h
  have nS : ∀ {b : Addr} {φ : Heap → Prop}, H b = some (.ext φ) → b ∉ S := fun e z => by obtain ⟨xs, q⟩ := l _ z; rw [e] at q; cases q
  exact ⟨d, fs, k _ _ (nS a) a, k _ _ (nS b) b, c⟩
theorem KL.els {S : List Addr} {H H' : Hp} {xs : List V} {ds : List PyData} (k : KL S H H') (l : Ls S H) (h : Els H xs ds) : Els H' xs ds :=
  h.keep fun b ys e => k b _ (fun z => by obtain ⟨xs, q⟩ := l _ z; rw [e] at q; cases q) e
section
variable {H : Hp} {Q : VK} {E : XK} {C : Addr}
theorem same_made {y : Addr} {o : HO} {H' : Hp} (fr : H y = none) (s : SB y (upd H y o) H') : Same H H' := fun b u e => s b u (ne_of_none e fr) (by rw [upd_ne (ne_of_none e fr)]; exact e)
theorem none_made {y l : Addr} {o : HO} (fr : H y = none) (n : (upd H y o) l = none) : H l = none := by
  by_cases z : l = y
  · subst z; exact fr
  · rw [upd_ne z] at n; exact n
theorem r_kTV {K : PySem.W.Frag} {l : Addr} {xs : List V} (h : H l = some (.lst xs)) (q : ∀ y l' H', Same H H' → H l' = none → H' l' = some (.lst xs) → Fl H' y C "told" (.ref l') → Q (.ref y) H') : kXI C (sp_TwoValues___init__ K C) E Q [.ref l] H :=
  ⟨by show 1 ≤ 1000; decide, fun y fr => ⟨y, l, xs, rfl, upd_same, by rw [upd_ne (ne_of_none h fr)]; exact h, fun H' l' s n e f => ⟨rfl, q y l' H' (same_made fr s) (none_made fr n) e f⟩⟩⟩
theorem r_kAt {z : Str} {n : Int} (h0 : 0 ≤ n) (h1 : n < 1000000) (q : ∀ y H', Same H H' → Fl H' y C z (.int n) → Q (.ref y) H') : kXI C (spAt C z) E Q [.int n] H :=
  ⟨by show 1 ≤ 1000; decide, fun y fr => ⟨y, n, rfl, upd_same, h0, h1, fun H' s f => ⟨rfl, q y H' (same_made fr s) f⟩⟩⟩
theorem r_kTR {K : PySem.W.Frag} {l r : Addr} {xs ys : List V} {n : Int} (h0 : 0 ≤ n) (h1 : n < 1000000) (hl : H l = some (.lst xs)) (hr : H r = some (.lst ys)) (q : ∀ y l' r' H', Same H H' → H l' = none → H r' = none → H' l' = some (.lst xs) → H' r' = some (.lst ys) → Fl H' y C "at" (.int n) → Fl H' y C "one" (.ref l') → Fl H' y C "other" (.ref r') → Q (.ref y) H') : kXI C (sp_TwoRows___init__ K C) E Q [.int n, .ref l, .ref r] H :=
  ⟨by show 3 ≤ 1000; decide, fun y fr => ⟨y, l, r, xs, ys, n, rfl, upd_same, h0, h1, by rw [upd_ne (ne_of_none hl fr)]; exact hl, by rw [upd_ne (ne_of_none hr fr)]; exact hr, fun H' l' r' s n1 n2 e1 e2 f1 f2 f3 => ⟨rfl, q y l' r' H' (same_made fr s) (none_made fr n1) (none_made fr n2) e1 e2 f1 f2 f3⟩⟩⟩
end
def sp_law_list (K : PySem.W.Frag) : Sp := fun vs H Q _ => ∃ (a : Addr) (ns : List Int) (k : Int), vs = [.ref a, .int k] ∧ SqL K H a (ns.map V.int) ∧ 0 ≤ k ∧ ∀ l H' xs ds, Same H H' → H l = none → H' l = some (.lst xs) → Els H' xs ds → xs.length ≤ 4 → Q (.ref l) H'
theorem c_list {K : PySem.W.Frag} {a : Addr} {ns : List Int} {k : Int} {H : Hp} {Q : VK} {E : XK} (h1 : SqL K H a (ns.map V.int)) (h2 : 0 ≤ k) (q : ∀ l H' xs ds, Same H H' → H l = none → H' l = some (.lst xs) → Els H' xs ds → xs.length ≤ 4 → Q (.ref l) H') : sp_law_list K ([.ref a, .int k] ++ []) H Q E := ⟨a, ns, k, rfl, h1, h2, q⟩
def sp_law_is_list (K : PySem.W.Frag) : Sp := fun vs H Q _ => ∃ (p q : Addr) (xs ys : List V) (ds : List PyData), vs = [.ref p, .ref q] ∧ H p = some (.lst xs) ∧ H q = some (.lst ys) ∧ Els H xs ds ∧ Els H ys ds ∧ Q (.bl true) H
theorem c_is_list {K : PySem.W.Frag} {p q : Addr} {xs ys : List V} {ds : List PyData} {H : Hp} {Q : VK} {E : XK} (h1 : H p = some (.lst xs)) (h2 : H q = some (.lst ys)) (h3 : Els H xs ds) (h4 : Els H ys ds) (k : Q (.bl true) H) : sp_law_is_list K ([.ref p, .ref q] ++ []) H Q E := ⟨p, q, xs, ys, ds, rfl, h1, h2, h3, h4, k⟩
local macro_rules | `(tactic| walk_at "rdc") => `(tactic| ((with_reducible refine' c_list ?h1 ?h2 ?_); (case h1 => walk_at "sq"); (case h2 => omega); intro l' H' xs' ds' g' n' e' s' z'))
local macro_rules | `(tactic| walk_at "ise") => `(tactic| first | assumption | (refine IsEx.same (by assumption) ?_; walk_at "ise"))
local macro_rules | `(tactic| walk_at "rdc") => `(tactic| first
  | ((with_reducible refine' r_isiE ?hx ?ex (.inr ⟨_, rfl⟩) ?e ?_); (case ex => assumption); (case hx => walk_at "ise"); (case e => assumption))
  | ((with_reducible refine' r_cat ?h1 ?h2 ?hz ?_); (case h1 => walk_at "hp"); (case h2 => walk_at "hp"); (case hz => exact small (by simp only [List.length_cons, List.length_nil, List.length_append]; decide)); intro l' H' g' e')
  | fail "k19d stops")
def kinds (c_NoNumber c_NoFigures c_NoGroups c_NoBody c_NoCore c_NoValue c_TooGreat c_TooWide c_NoText c_NoSheet c_NoRow c_TwoValues c_NoForm c_NoLine c_TooMany c_TwoRows : Addr) : List Addr := [c_NoNumber, c_NoFigures, c_NoGroups, c_NoBody, c_NoCore, c_NoValue, c_TooGreat, c_TooWide, c_NoText, c_NoSheet, c_NoRow, c_TwoValues, c_NoForm, c_NoLine, c_TooMany, c_TwoRows]
def Kd (cs : List Addr) (H : Hp) (xs : List V) (a n : Nat) : Prop := xs.length = n ∧ ∀ i, i < n → ∃ x, xs[i]? = some (.ref x) ∧ IsEx H x (cs.getD (a + i) 0)
def sp_law_plain (K : PySem.W.Frag) (cs : List Addr) : Sp := fun vs H Q _ => ∃ b : Bool, vs = [.bl b] ∧ ∀ l H' xs, Same H H' → H' l = some (.lst xs) → Kd cs H' xs 0 11 → Q (.ref l) H'
def sp_law_flags (K : PySem.W.Frag) (cs : List Addr) : Sp := fun vs H Q _ => ∃ (x C : Addr) (row : Nat → Bool), vs = [.ref x] ∧ IsEx H x C ∧ ExcB K C ∧ (∀ j, j < 16 → PySem.W.kitOne K (.ref C) (.ref (cs.getD j 0)) = some (row j)) ∧ ∀ l H', Same H H' → H' l = some (.lst ((List.range 16).map fun j => .bl (row j))) → Q (.ref l) H'
theorem ok_law_cell {f : Addr} {fd : FuncData} (F : Fun K "_law_cell" "_law_cell" s_law_cell f fd) (B : Blt mg) : FnOk P w K mg base CX0 1 f fd ["_law_script", "_law_k"] (sp_law_cell K) := by
  refine F.ok sc_law_cell (fun vs H Q E h => ?_) (fun cdv A outer s H vs Q E hr h => ?_)
  · obtain ⟨a, ns, k, rfl, hS, hk, q⟩ := h
    rfl
  obtain ⟨a, ns, k, rfl, hS, hk, q⟩ := h
  refine ⟨_, pss_cons (ps_if (pt_cmpR op_lt (pv 1) (pe_callBH call_lenN B.z_len rfl bo_len (pa_cons (pv 0) (pa_nil))) (nomark _)) (pss_one (ps_ret (pe_ix ix_list (pv 0) (pv 1) (fun _ _ => rfl)))) (pss_nil))
    (pss_one (ps_ret (pe_int))), ?_⟩
  walk_at "st"
  walk_at "rd"
  · rename_i hc
    rw [List.length_map] at hc
    exact r_ixAll hS hk (by rw [List.length_map]; omega) fun x hx => by
      obtain ⟨v, _, rfl⟩ := List.mem_map.mp (List.mem_of_getElem? hx)
      exact q v
  · exact q 0
theorem ok_law_draw {f : Addr} {fd : FuncData} (F : Fun K "_law_draw" "_law_draw" s_law_draw f fd) (B : Blt mg) : FnOk P w K mg base CX0 1 f fd ["_law_cell_here", "_law_salt", "_law_many"] (sp_law_draw K) := by
  refine F.ok sc_law_draw (fun vs H Q E h => ?_) (fun cdv A outer s H vs Q E hr h => ?_)
  · obtain ⟨c, t, m, rfl, ht, hm, q⟩ := h
    rfl
  obtain ⟨c, t, m, rfl, ht, hm, q⟩ := h
  refine ⟨_, pss_cons (ps_if (PW.pt (pw_and (pt_cmpR op_gt (pv 0) (pe_powK (k := 1000000000000000000) (by unfold CPow; decide) (by decide +kernel)) (nomark _)) (pw_and1 (pt_cmpR op_gt (pe_op op_shrP (pv 0) (pe_op op_mulA (pe_int) (pv 1))) (pe_int) (nomark _))))) (pss_one (ps_ret (pe_op op_modP (pe_op op_modP (pe_op op_shrP (pv 0) (pe_op op_mulA (pe_int) (pv 1))) (pe_int)) (pv 2)))) (pss_nil))
    (pss_cons (ps_set (i := 3) sc_law_draw.nd rfl (Or.inl rfl) (pe_op op_modP (pe_op op_add (pe_op op_add (pe_op op_modP (pv 0) (pe_int)) (pe_int)) (pe_op op_mulA (pe_int) (pv 1))) (pe_int)))
    (pss_cons (ps_set (i := 3) sc_law_draw.nd rfl (Or.inl rfl) (pe_op op_modP (pe_op op_mulA (pv 3) (pv 3)) (pe_int)))
    (pss_cons (ps_set (i := 4) sc_law_draw.nd rfl (Or.inl rfl) (pe_op op_modP (pe_op op_mulA (pe_op op_add (pv 3) (pe_int)) (pe_op op_add (pe_op op_add (pe_op op_fdivB (pv 3) (pe_int)) (pe_int)) (pv 1))) (pe_int)))
    (pss_one (ps_ret (pe_op op_modP (pe_op op_fdivB (pv 4) (pe_int)) (pv 2))))))), ?_⟩
  walk_at "st"
  walk_at "rd"
  all_goals exact q _ (Int.emod_nonneg _ (by omega)) (Int.emod_lt_of_pos _ hm)
theorem ok_law_whole {f : Addr} {fd : FuncData} (F : Fun K "_law_whole" "_law_whole" s_law_whole f fd) (B : Blt mg) : FnOk P w K mg base CX0 1 f fd ["_law_found"] (sp_law_whole K) := by
  refine F.ok sc_law_whole (fun vs H Q E h => ?_) (fun cdv A outer s H vs Q E hr h => ?_)
  · obtain ⟨i, rfl, q⟩ := h
    rfl
  obtain ⟨i, rfl, q⟩ := h
  refine ⟨_, pss_one (ps_ret (pe_and (pe_callBH call_isi B.z_isinstance rfl bo_isinstance (pa_cons (pv 0) (pa_cons (pe_bltn rfl B.z_int bo_int (v := .ty "int") rfl) (pa_nil)))) (pe_one (pe_not (pe_callBH call_isi B.z_isinstance rfl bo_isinstance (pa_cons (pv 0) (pa_cons (pe_bltn rfl B.z_bool bo_bool (v := .ty "bool") rfl) (pa_nil)))))))), ?_⟩
  walk_at "st"
  walk_at "rd"
  exact q
theorem ok_law_list {f : Addr} {fd : FuncData} (F : Fun K "_law_list" "_law_list" s_law_list f fd) (B : Blt mg) (C_law_cell : Has P w K mg base "_law_cell" 1 ["_law_script", "_law_k"] (sp_law_cell K)) (C_law_draw : Has P w K mg base "_law_draw" 1 ["_law_cell_here", "_law_salt", "_law_many"] (sp_law_draw K)) : FnOk P w K mg base CX0 2 f fd ["_law_script", "_law_k"] (sp_law_list K) := by
  refine F.ok sc_law_list (fun vs H Q E h => ?_) (fun cdv A outer s H vs Q E hr h => ?_)
  · obtain ⟨a, ns, k, rfl, hS, hk, q⟩ := h
    rfl
  obtain ⟨a, ns, k, rfl, hS, hk, q⟩ := h
  refine ⟨_, pss_cons (ps_set (i := 2) sc_law_list.nd rfl (Or.inl rfl) (pe_callH C_law_cell hr rfl (pa_cons (pv 0) (pa_cons (pv 1) (pa_nil)))))
    (pss_cons (ps_set (i := 3) sc_law_list.nd rfl (Or.inl rfl) (pe_lst (pa_nil)))
    (pss_cons (ps_for PassesOwn.never rfl (pi_range1 rfl B.z_range (pa_cons (pe_callH C_law_draw hr rfl (pa_cons (pv 2) (pa_cons (pe_int) (pa_cons (pe_int) (pa_nil))))) (pa_nil))) (pg_name (i := 4) sc_law_list.nd rfl (Or.inl rfl)) (pss_cons (ps_set (i := 5) sc_law_list.nd rfl (Or.inl rfl) (pe_callH C_law_draw hr rfl (pa_cons (pv 2) (pa_cons (pe_op op_add (pe_int) (pv 4)) (pa_cons (pe_int) (pa_nil))))))
    (pss_one (ps_expr (pe_bm PySem.F.plainAttrs_list PySem.F.slot_list_append PySem.F.type_list_append mt_append (pv 3) (pa_cons (pe_ix ix_list (pe_lst (pa_cons (pv 5) (pa_cons (pe_op op_mulT (pe_strT (l := [98]) (by decide +kernel)) (pe_op op_add (pe_int) (pe_op op_modP (pv 5) (pe_int)))) (pa_cons (pe_tup (pa_cons (pv 5) (pa_cons (pe_int) (pa_nil)))) (pa_nil))))) (pe_op op_modP (pv 5) (pe_int)) (fun _ _ => rfl)) (pa_nil)))))))
    (pss_one (ps_ret (pv 3))))), ?_⟩
  walk_at "st"
  walk_at "rd"
  rename_i c l H1 g1 n1 e1 v hv0 hv1
  refine r_kForR (by omega) (by omega) (fun i σ H' => Same H H' ∧ ∃ xs ds r1 r2, σ = [some (.ref a), some (.int k), some (.int c), some (.ref l), r1, r2] ∧ H' l = some (.lst xs) ∧ Els H' xs ds ∧ xs.length = i) ⟨g1, [], [], none, none, rfl, e1, .nil, rfl⟩ ?_ ?_
  · rintro i σ H2 hlt ⟨gg, xs, ds, r1, r2, rfl, hl, he, rfl⟩
    walk_at "rd"
    rename_i n hn0 hn1 p3 H3 g3 e3 l4 H4 g4 n4 e4
    refine r_ixAll (SqL.of e4) (Int.emod_nonneg _ (by decide)) (by show n % 3 < (3 : Int); exact Int.emod_lt_of_pos _ (by decide)) fun x hx => ?_
    have hm := List.mem_of_getElem? hx
    simp only [List.mem_cons, List.not_mem_nil, or_false] at hm
    have g24 : Same H2 H4 := g3.trans g4
    have ex : ∃ d, El H4 x d := by
      rcases hm with rfl | rfl | rfl
      · exact ⟨_, .int _⟩
      · exact ⟨_, .str (ok_T fun c hc => by rw [(List.mem_replicate.mp hc).2]; decide)⟩
      · exact ⟨_, .tup (g4.at e3)⟩
    obtain ⟨d, ed⟩ := ex
    have hl4 := g24.at hl
    walk_at "rd"
    refine r_append hl4 (small1000 (by omega)) ?_
    walk_at "rd"
    have kp : ∀ b ys, H4 b = some (.tup ys) → (upd H4 l (.lst (xs ++ [x]))) b = some (.tup ys) := fun b ys e => by
      rw [upd_ne (fun z => by subst z; rw [hl4] at e; cases e)]; exact e
    refine ⟨fun b o e => ?_, xs ++ [x], ds ++ [d], _, _, rfl, upd_same, ((he.same g24).snoc ed).keep kp, by rw [List.length_append]; rfl⟩
    rw [upd_ne (ne_of_none e n1)]; exact g24.at (gg.at e)
  · rintro σ H2 ⟨gg, xs, ds, r1, r2, rfl, hl, he, hx⟩
    walk_at "rd"
    exact q _ _ _ _ gg n1 hl he (by omega)
theorem ok_law_is_list {f : Addr} {fd : FuncData} (F : Fun K "_law_is_list" "_law_is_list" s_law_is_list f fd) (B : Blt mg) : FnOk P w K mg base CX0 1 f fd ["_law_found", "_law_due"] (sp_law_is_list K) := by
  refine F.ok sc_law_is_list (fun vs H Q E h => ?_) (fun cdv A outer s H vs Q E hr h => ?_)
  · obtain ⟨p, q, xs, ys, ds, rfl, h1, h2, h3, h4, k⟩ := h
    rfl
  obtain ⟨p, q, xs, ys, ds, rfl, h1, h2, h3, h4, k⟩ := h
  refine ⟨_, pss_one (ps_ret (pe_and (pe_callBH call_isi B.z_isinstance rfl bo_isinstance (pa_cons (pv 0) (pa_cons (pe_bltn rfl B.z_list bo_list (v := .ty "list") rfl) (pa_nil)))) (pe_one (pe_cmpR (op_eqD (hu20 hr)) (pv 0) (pv 1) (nomark _))))), ?_⟩
  walk_at "st"
  obtain ⟨a1, a2, a3⟩ := h3.list (K := K) h1
  obtain ⟨b1, b2, b3⟩ := h4.list (K := K) h2
  walk_at "rd"
  exact r_eqD a1 b1 a2 a3 k
theorem ok_law_plain {f : Addr} {fd : FuncData} (F : Fun K "_law_plain" "_law_plain" s_law_plain f fd) (B : Blt mg) {c_NoNumber : Addr} {c_NoFigures : Addr} {c_NoGroups : Addr} {c_NoBody : Addr} {c_NoCore : Addr} {c_NoValue : Addr} {c_TooGreat : Addr} {c_TooWide : Addr} {c_NoText : Addr} {c_NoSheet : Addr} {c_NoRow : Addr} {c_TwoValues : Addr} {c_NoForm : Addr} {c_NoLine : Addr} {c_TooMany : Addr} {c_TwoRows : Addr} {c_PadError : Addr} (Z : Zs K mg c_NoNumber c_NoFigures c_NoGroups c_NoBody c_NoCore c_NoValue c_TooGreat c_TooWide c_NoText c_NoSheet c_NoRow c_TwoValues c_NoForm c_NoLine c_TooMany c_TwoRows c_PadError) : FnOk P w K mg base CX0 1 f fd ["_law_bare"] (sp_law_plain K (kinds c_NoNumber c_NoFigures c_NoGroups c_NoBody c_NoCore c_NoValue c_TooGreat c_TooWide c_NoText c_NoSheet c_NoRow c_TwoValues c_NoForm c_NoLine c_TooMany c_TwoRows)) := by
  refine F.ok sc_law_plain (fun vs H Q E h => ?_) (fun cdv A outer s H vs Q E hr h => ?_)
  · obtain ⟨b, rfl, q⟩ := h
    rfl
  obtain ⟨b, rfl, q⟩ := h
  refine ⟨_, pss_cons (ps_if (pt_val (pv 0)) (pss_cons (ps_set (i := 1) sc_law_plain.nd rfl (Or.inl rfl) (pe_lst (pa_cons (pe_exc0 Z.e_NoNumber Z.k_NoNumber rfl Z.m_NoNumber) (pa_cons (pe_exc0 Z.e_NoFigures Z.k_NoFigures rfl Z.m_NoFigures) (pa_cons (pe_exc0 Z.e_NoGroups Z.k_NoGroups rfl Z.m_NoGroups) (pa_cons (pe_exc0 Z.e_NoBody Z.k_NoBody rfl Z.m_NoBody) (pa_cons (pe_exc0 Z.e_NoCore Z.k_NoCore rfl Z.m_NoCore) (pa_cons (pe_exc0 Z.e_NoValue Z.k_NoValue rfl Z.m_NoValue) (pa_cons (pe_exc0 Z.e_TooGreat Z.k_TooGreat rfl Z.m_TooGreat) (pa_cons (pe_exc0 Z.e_TooWide Z.k_TooWide rfl Z.m_TooWide) (pa_cons (pe_exc0 Z.e_NoText Z.k_NoText rfl Z.m_NoText) (pa_nil) se_Call) se_Call) se_Call) se_Call) se_Call) se_Call) se_Call) se_Call) se_Call)))
    (pss_one (ps_ret (pe_op op_cat (pv 1) (pe_lst (pa_cons (pe_exc0 Z.e_NoSheet Z.k_NoSheet rfl Z.m_NoSheet) (pa_cons (pe_exc0 Z.e_NoRow Z.k_NoRow rfl Z.m_NoRow) (pa_nil)))))))) (pss_nil))
    (pss_cons (ps_set (i := 1) sc_law_plain.nd rfl (Or.inl rfl) (pe_lst (pa_cons (pe_exc Z.e_NoNumber Z.k_NoNumber rfl Z.m_NoNumber (pa_cons (pe_str) (pa_nil))) (pa_cons (pe_exc Z.e_NoFigures Z.k_NoFigures rfl Z.m_NoFigures (pa_cons (pe_str) (pa_nil))) (pa_cons (pe_exc Z.e_NoGroups Z.k_NoGroups rfl Z.m_NoGroups (pa_cons (pe_str) (pa_nil))) (pa_cons (pe_exc Z.e_NoBody Z.k_NoBody rfl Z.m_NoBody (pa_cons (pe_str) (pa_nil))) (pa_cons (pe_exc Z.e_NoCore Z.k_NoCore rfl Z.m_NoCore (pa_cons (pe_str) (pa_nil))) (pa_cons (pe_exc Z.e_NoValue Z.k_NoValue rfl Z.m_NoValue (pa_cons (pe_str) (pa_nil))) (pa_nil)))))))))
    (pss_cons (ps_set (i := 1) sc_law_plain.nd rfl (Or.inl rfl) (pe_op op_cat (pv 1) (pe_lst (pa_cons (pe_exc Z.e_TooGreat Z.k_TooGreat rfl Z.m_TooGreat (pa_cons (pe_str) (pa_nil))) (pa_cons (pe_exc Z.e_TooWide Z.k_TooWide rfl Z.m_TooWide (pa_cons (pe_str) (pa_nil))) (pa_cons (pe_exc Z.e_NoText Z.k_NoText rfl Z.m_NoText (pa_cons (pe_str) (pa_nil))) (pa_cons (pe_exc Z.e_NoSheet Z.k_NoSheet rfl Z.m_NoSheet (pa_cons (pe_str) (pa_nil))) (pa_cons (pe_exc Z.e_NoRow Z.k_NoRow rfl Z.m_NoRow (pa_cons (pe_str) (pa_nil))) (pa_nil)))))))))
    (pss_one (ps_ret (pv 1))))), ?_⟩
  walk_at "st"
  walk_at "rd"
  all_goals
    refine q _ _ _ (by walk_at "sm") (by assumption) ⟨rfl, fun i hi => ?_⟩
    rcases (show i = 0 ∨ i = 1 ∨ i = 2 ∨ i = 3 ∨ i = 4 ∨ i = 5 ∨ i = 6 ∨ i = 7 ∨ i = 8 ∨ i = 9 ∨ i = 10 by omega) with rfl | rfl | rfl | rfl | rfl | rfl | rfl | rfl | rfl | rfl | rfl
    all_goals exact ⟨_, rfl, IsEx.n (by walk_at "hp")⟩
theorem ok_law_flags {f : Addr} {fd : FuncData} (F : Fun K "_law_flags" "_law_flags" s_law_flags f fd) (B : Blt mg) {c_NoNumber : Addr} {c_NoFigures : Addr} {c_NoGroups : Addr} {c_NoBody : Addr} {c_NoCore : Addr} {c_NoValue : Addr} {c_TooGreat : Addr} {c_TooWide : Addr} {c_NoText : Addr} {c_NoSheet : Addr} {c_NoRow : Addr} {c_TwoValues : Addr} {c_NoForm : Addr} {c_NoLine : Addr} {c_TooMany : Addr} {c_TwoRows : Addr} {c_PadError : Addr} (Z : Zs K mg c_NoNumber c_NoFigures c_NoGroups c_NoBody c_NoCore c_NoValue c_TooGreat c_TooWide c_NoText c_NoSheet c_NoRow c_TwoValues c_NoForm c_NoLine c_TooMany c_TwoRows c_PadError) : FnOk P w K mg base CX0 1 f fd ["_law_e"] (sp_law_flags K (kinds c_NoNumber c_NoFigures c_NoGroups c_NoBody c_NoCore c_NoValue c_TooGreat c_TooWide c_NoText c_NoSheet c_NoRow c_TwoValues c_NoForm c_NoLine c_TooMany c_TwoRows)) := by
  refine F.ok sc_law_flags (fun vs H Q E h => ?_) (fun cdv A outer s H vs Q E hr h => ?_)
  · obtain ⟨x, C, row, rfl, hx, hb, hk, q⟩ := h
    rfl
  obtain ⟨x, C, row, rfl, hx, hb, hk, q⟩ := h
  refine ⟨_, pss_cons (ps_set (i := 1) sc_law_flags.nd rfl (Or.inl rfl) (pe_lst (pa_cons (pe_callBH call_isiE B.z_isinstance rfl bo_isinstance (pa_cons (pv 0) (pa_cons (pe_glob rfl Z.m_NoNumber (v := .ref c_NoNumber) rfl) (pa_nil)))) (pa_cons (pe_callBH call_isiE B.z_isinstance rfl bo_isinstance (pa_cons (pv 0) (pa_cons (pe_glob rfl Z.m_NoFigures (v := .ref c_NoFigures) rfl) (pa_nil)))) (pa_cons (pe_callBH call_isiE B.z_isinstance rfl bo_isinstance (pa_cons (pv 0) (pa_cons (pe_glob rfl Z.m_NoGroups (v := .ref c_NoGroups) rfl) (pa_nil)))) (pa_cons (pe_callBH call_isiE B.z_isinstance rfl bo_isinstance (pa_cons (pv 0) (pa_cons (pe_glob rfl Z.m_NoBody (v := .ref c_NoBody) rfl) (pa_nil)))) (pa_nil)))))))
    (pss_cons (ps_set (i := 1) sc_law_flags.nd rfl (Or.inl rfl) (pe_op op_cat (pv 1) (pe_lst (pa_cons (pe_callBH call_isiE B.z_isinstance rfl bo_isinstance (pa_cons (pv 0) (pa_cons (pe_glob rfl Z.m_NoCore (v := .ref c_NoCore) rfl) (pa_nil)))) (pa_cons (pe_callBH call_isiE B.z_isinstance rfl bo_isinstance (pa_cons (pv 0) (pa_cons (pe_glob rfl Z.m_NoValue (v := .ref c_NoValue) rfl) (pa_nil)))) (pa_cons (pe_callBH call_isiE B.z_isinstance rfl bo_isinstance (pa_cons (pv 0) (pa_cons (pe_glob rfl Z.m_TooGreat (v := .ref c_TooGreat) rfl) (pa_nil)))) (pa_cons (pe_callBH call_isiE B.z_isinstance rfl bo_isinstance (pa_cons (pv 0) (pa_cons (pe_glob rfl Z.m_TooWide (v := .ref c_TooWide) rfl) (pa_nil)))) (pa_nil))))))))
    (pss_cons (ps_set (i := 1) sc_law_flags.nd rfl (Or.inl rfl) (pe_op op_cat (pv 1) (pe_lst (pa_cons (pe_callBH call_isiE B.z_isinstance rfl bo_isinstance (pa_cons (pv 0) (pa_cons (pe_glob rfl Z.m_NoText (v := .ref c_NoText) rfl) (pa_nil)))) (pa_cons (pe_callBH call_isiE B.z_isinstance rfl bo_isinstance (pa_cons (pv 0) (pa_cons (pe_glob rfl Z.m_NoSheet (v := .ref c_NoSheet) rfl) (pa_nil)))) (pa_cons (pe_callBH call_isiE B.z_isinstance rfl bo_isinstance (pa_cons (pv 0) (pa_cons (pe_glob rfl Z.m_NoRow (v := .ref c_NoRow) rfl) (pa_nil)))) (pa_cons (pe_callBH call_isiE B.z_isinstance rfl bo_isinstance (pa_cons (pv 0) (pa_cons (pe_glob rfl Z.m_TwoValues (v := .ref c_TwoValues) rfl) (pa_nil)))) (pa_nil))))))))
    (pss_one (ps_ret (pe_op op_cat (pv 1) (pe_lst (pa_cons (pe_callBH call_isiE B.z_isinstance rfl bo_isinstance (pa_cons (pv 0) (pa_cons (pe_glob rfl Z.m_NoForm (v := .ref c_NoForm) rfl) (pa_nil)))) (pa_cons (pe_callBH call_isiE B.z_isinstance rfl bo_isinstance (pa_cons (pv 0) (pa_cons (pe_glob rfl Z.m_NoLine (v := .ref c_NoLine) rfl) (pa_nil)))) (pa_cons (pe_callBH call_isiE B.z_isinstance rfl bo_isinstance (pa_cons (pv 0) (pa_cons (pe_glob rfl Z.m_TooMany (v := .ref c_TooMany) rfl) (pa_nil)))) (pa_cons (pe_callBH call_isiE B.z_isinstance rfl bo_isinstance (pa_cons (pv 0) (pa_cons (pe_glob rfl Z.m_TwoRows (v := .ref c_TwoRows) rfl) (pa_nil)))) (pa_nil))))))))))), ?_⟩
  walk_at "st"
  have k0 : PySem.W.kitOne K (.ref C) (clsV (.ref c_NoNumber)) = some (row 0) := hk 0 (by decide)
  have k1 : PySem.W.kitOne K (.ref C) (clsV (.ref c_NoFigures)) = some (row 1) := hk 1 (by decide)
  have k2 : PySem.W.kitOne K (.ref C) (clsV (.ref c_NoGroups)) = some (row 2) := hk 2 (by decide)
  have k3 : PySem.W.kitOne K (.ref C) (clsV (.ref c_NoBody)) = some (row 3) := hk 3 (by decide)
  have k4 : PySem.W.kitOne K (.ref C) (clsV (.ref c_NoCore)) = some (row 4) := hk 4 (by decide)
  have k5 : PySem.W.kitOne K (.ref C) (clsV (.ref c_NoValue)) = some (row 5) := hk 5 (by decide)
  have k6 : PySem.W.kitOne K (.ref C) (clsV (.ref c_TooGreat)) = some (row 6) := hk 6 (by decide)
  have k7 : PySem.W.kitOne K (.ref C) (clsV (.ref c_TooWide)) = some (row 7) := hk 7 (by decide)
  have k8 : PySem.W.kitOne K (.ref C) (clsV (.ref c_NoText)) = some (row 8) := hk 8 (by decide)
  have k9 : PySem.W.kitOne K (.ref C) (clsV (.ref c_NoSheet)) = some (row 9) := hk 9 (by decide)
  have k10 : PySem.W.kitOne K (.ref C) (clsV (.ref c_NoRow)) = some (row 10) := hk 10 (by decide)
  have k11 : PySem.W.kitOne K (.ref C) (clsV (.ref c_TwoValues)) = some (row 11) := hk 11 (by decide)
  have k12 : PySem.W.kitOne K (.ref C) (clsV (.ref c_NoForm)) = some (row 12) := hk 12 (by decide)
  have k13 : PySem.W.kitOne K (.ref C) (clsV (.ref c_NoLine)) = some (row 13) := hk 13 (by decide)
  have k14 : PySem.W.kitOne K (.ref C) (clsV (.ref c_TooMany)) = some (row 14) := hk 14 (by decide)
  have k15 : PySem.W.kitOne K (.ref C) (clsV (.ref c_TwoRows)) = some (row 15) := hk 15 (by decide)
  clear hk
  walk_at "rd"
  refine q _ _ (by walk_at "sm") ?_
  assumption
def Mde (cs : List Addr) (H : Hp) (m d : Addr) : Prop := ∃ (e0 e1 e2 e3 e4 l0 l1 l2 d0 d1 d2 dc : Addr) (xs0 xs1 xs2 : List V) (D0 D1 D2 : List PyData) (n0 n1 n2 n3 : Int),
  H m = some (.lst [.ref e0, .ref e1, .ref e2, .ref e3, .ref e4]) ∧ Fl H e0 (cs.getD 11 0) "told" (.ref l0) ∧ Fl H e1 (cs.getD 12 0) "at" (.int n0) ∧ Fl H e2 (cs.getD 13 0) "at" (.int n1) ∧ Fl H e3 (cs.getD 14 0) "number" (.int n2) ∧ Fl H e4 (cs.getD 15 0) "at" (.int n3) ∧ Fl H e4 (cs.getD 15 0) "one" (.ref l1) ∧ Fl H e4 (cs.getD 15 0) "other" (.ref l2) ∧
  H l0 = some (.lst xs0) ∧ H l1 = some (.lst xs1) ∧ H l2 = some (.lst xs2) ∧ Els H xs0 D0 ∧ Els H xs1 D1 ∧ Els H xs2 D2 ∧
  H d = some (.lst [.ref d0, .ref dc, .ref d1, .ref d2]) ∧ H dc = some (.lst [.int n0, .int n1, .int n2, .int n3]) ∧ H d0 = some (.lst xs0) ∧ H d1 = some (.lst xs1) ∧ H d2 = some (.lst xs2)
theorem Mde.same {cs : List Addr} {H H' : Hp} {m d : Addr} (g : Same H H') (h : Mde cs H m d) : Mde cs H' m d := by
  obtain ⟨e0, e1, e2, e3, e4, l0, l1, l2, d0, d1, d2, dc, xs0, xs1, xs2, D0, D1, D2, n0, n1, n2, n3, a1, a2, a3, a4, a5, a6, a7, a8, a9, a10, a11, a12, a13, a14, a15, a16, a17, a18, a19⟩ := h
  exact ⟨e0, e1, e2, e3, e4, l0, l1, l2, d0, d1, d2, dc, xs0, xs1, xs2, D0, D1, D2, n0, n1, n2, n3, g.at a1, a2.same g, a3.same g, a4.same g, a5.same g, a6.same g, a7.same g, a8.same g, g.at a9, g.at a10, g.at a11, a12.same g, a13.same g, a14.same g, g.at a15, g.at a16, g.at a17, g.at a18, g.at a19⟩
def sp_law_made (K : PySem.W.Frag) (cs : List Addr) : Sp := fun vs H Q _ => ∃ (a : Addr) (ns : List Int) (k : Int), vs = [.ref a, .int k] ∧ SqL K H a (ns.map V.int) ∧ 0 ≤ k ∧ ∀ p m d H', Same H H' → H' p = some (.tup [.ref m, .ref d]) → Mde cs H' m d → Q (.ref p) H'
def sp_law_fields (K : PySem.W.Frag) (cs : List Addr) : Sp := fun vs H Q _ => ∃ m d : Addr, vs = [.ref m, .ref d] ∧ Mde cs H m d ∧ ∀ H', Same H H' → Q (.bl true) H'
def sp_law (K : PySem.W.Frag) : Sp := fun vs H Q _ => ∃ (a : Addr) (ns : List Int), vs = [.ref a] ∧ SqL K H a (ns.map V.int) ∧ ns.length ≤ 63 ∧ ∀ H', Q (.bl true) H'
theorem ok_law_made {f : Addr} {fd : FuncData} (F : Fun K "_law_made" "_law_made" s_law_made f fd) (B : Blt mg) {c_NoNumber : Addr} {c_NoFigures : Addr} {c_NoGroups : Addr} {c_NoBody : Addr} {c_NoCore : Addr} {c_NoValue : Addr} {c_TooGreat : Addr} {c_TooWide : Addr} {c_NoText : Addr} {c_NoSheet : Addr} {c_NoRow : Addr} {c_TwoValues : Addr} {c_NoForm : Addr} {c_NoLine : Addr} {c_TooMany : Addr} {c_TwoRows : Addr} {c_PadError : Addr} (Z : Zs K mg c_NoNumber c_NoFigures c_NoGroups c_NoBody c_NoCore c_NoValue c_TooGreat c_TooWide c_NoText c_NoSheet c_NoRow c_TwoValues c_NoForm c_NoLine c_TooMany c_TwoRows c_PadError) (C_law_list : Has P w K mg base "_law_list" 2 ["_law_script", "_law_k"] (sp_law_list K)) (C_law_cell : Has P w K mg base "_law_cell" 1 ["_law_script", "_law_k"] (sp_law_cell K)) (X_TwoValues_init : HasXI P w K mg base CX0 c_TwoValues 1 ["self", "told"] (sp_TwoValues___init__ K c_TwoValues)) (X_NoForm_init : HasXI P w K mg base CX0 c_NoForm 1 ["self", "at"] (sp_NoForm___init__ K c_NoForm)) (X_NoLine_init : HasXI P w K mg base CX0 c_NoLine 1 ["self", "at"] (sp_NoLine___init__ K c_NoLine)) (X_TooMany_init : HasXI P w K mg base CX0 c_TooMany 1 ["self", "number"] (sp_TooMany___init__ K c_TooMany)) (X_TwoRows_init : HasXI P w K mg base CX0 c_TwoRows 1 ["self", "at", "one", "other"] (sp_TwoRows___init__ K c_TwoRows)) : FnOk P w K mg base CX0 3 f fd ["_law_script", "_law_k"] (sp_law_made K (kinds c_NoNumber c_NoFigures c_NoGroups c_NoBody c_NoCore c_NoValue c_TooGreat c_TooWide c_NoText c_NoSheet c_NoRow c_TwoValues c_NoForm c_NoLine c_TooMany c_TwoRows)) := by
  refine F.ok sc_law_made (fun vs H Q E h => ?_) (fun cdv A outer s H vs Q E hr h => ?_)
  · obtain ⟨a, ns, k, rfl, hS, hk, q⟩ := h
    rfl
  obtain ⟨a, ns, k, rfl, hS, hk, q⟩ := h
  refine ⟨_, pss_cons (ps_set (i := 2) sc_law_made.nd rfl (Or.inl rfl) (pe_callH C_law_list hr rfl (pa_cons (pv 0) (pa_cons (pv 1) (pa_nil)))))
    (pss_cons (ps_set (i := 3) sc_law_made.nd rfl (Or.inl rfl) (pe_callH C_law_list hr rfl (pa_cons (pv 0) (pa_cons (pe_op op_add (pv 1) (pe_int)) (pa_nil)))))
    (pss_cons (ps_set (i := 4) sc_law_made.nd rfl (Or.inl rfl) (pe_callH C_law_list hr rfl (pa_cons (pv 0) (pa_cons (pe_op op_add (pv 1) (pe_int)) (pa_nil)))))
    (pss_cons (ps_setcomp (cl := [("_law_script", s.heap.objs.size + 1 + 0), ("_law_k", s.heap.objs.size + 1 + 1)]) (fr := ["_law_k", "_law_script"]) (is := [1, 0]) (i := 5) sc_law_made.nd rfl (Or.inl rfl) rfl rfl rfl ⟨rfl, ⟨rfl, trivial⟩⟩ rfl ⟨⟨rfl, rfl, Or.inl rfl⟩, ⟨⟨rfl, rfl, Or.inl rfl⟩, trivial⟩⟩ (by decide) (by decide +kernel) rfl (by decide +kernel) rfl (pi_range1 rfl B.z_range (pa_cons (pe_int) (pa_nil))) (fun _ _ _ _ => pifs_nil) (fun _ _ _ _ => pe_op op_modP (pe_callH C_law_cell hr rfl (pa_cons (pv 2) (pa_cons (pe_op op_add (pe_op op_add (pv 1) (pe_int)) (pv 0)) (pa_nil)))) (pe_powK (k := 1000000) (by unfold CPow; decide) (by decide +kernel))))
    (pss_cons (ps_set (i := 6) sc_law_made.nd rfl (Or.inl rfl) (pe_lst (pa_cons (pe_excIH X_TwoValues_init pass0 hr rfl Z.m_TwoValues (pa_cons (pv 4) (pa_nil))) (pa_cons (pe_excIH X_NoForm_init pass0 hr rfl Z.m_NoForm (pa_cons (pe_ix ix_list (pv 5) (pe_int) (fun _ _ => rfl)) (pa_nil))) (pa_cons (pe_excIH X_NoLine_init pass0 hr rfl Z.m_NoLine (pa_cons (pe_ix ix_list (pv 5) (pe_int) (fun _ _ => rfl)) (pa_nil))) (pa_cons (pe_excIH X_TooMany_init pass0 hr rfl Z.m_TooMany (pa_cons (pe_ix ix_list (pv 5) (pe_int) (fun _ _ => rfl)) (pa_nil))) (pa_nil)))))))
    (pss_cons (ps_expr (pe_bm PySem.F.plainAttrs_list PySem.F.slot_list_append PySem.F.type_list_append mt_append (pv 6) (pa_cons (pe_excIH X_TwoRows_init pass0 hr rfl Z.m_TwoRows (pa_cons (pe_ix ix_list (pv 5) (pe_int) (fun _ _ => rfl)) (pa_cons (pv 2) (pa_cons (pv 3) (pa_nil))))) (pa_nil))))
    (pss_cons (ps_set (i := 7) sc_law_made.nd rfl (Or.inl rfl) (pe_lst (pa_cons (pe_callTy call_listOf rfl B.z_list bo_list (pa_cons (pv 4) (pa_nil))) (pa_cons (pv 5) (pa_cons (pe_callTy call_listOf rfl B.z_list bo_list (pa_cons (pv 2) (pa_nil))) (pa_cons (pe_callTy call_listOf rfl B.z_list bo_list (pa_cons (pv 3) (pa_nil))) (pa_nil)))))))
    (pss_cons (ps_for PassesOwn.never rfl (pi_list (pe_lst (pa_cons (pv 2) (pa_cons (pv 3) (pa_cons (pv 4) (pa_nil)))))) (pg_name (i := 8) sc_law_made.nd rfl (Or.inl rfl)) (pss_one (ps_expr (pe_bm PySem.F.plainAttrs_list PySem.F.slot_list_append PySem.F.type_list_append mt_append (pv 8) (pa_cons (pe_non) (pa_nil))))))
    (pss_one (ps_ret (pe_tup (pa_cons (pv 6) (pa_cons (pv 7) (pa_nil))))))))))))), ?_⟩
  walk_at "st"
  walk_at "rd"
  rename_i l1 H1 xs1 D1 g1 n1 e1 s1 z1 l2 H2 xs2 D2 g2 n2 e2 s2 z2 l3 H3 xs3 D3 g3 n3 e3 s3 z3
  refine r_kCompRN (by decide) (by decide) (small (by decide)) (fun i ys H' => H' = H3 ∧ ∃ cs : List Int, ys = cs.map V.int ∧ cs.length = i ∧ ∀ c ∈ cs, 0 ≤ c ∧ c < 1000000) ⟨rfl, [], rfl, rfl, fun c hc => by cases hc⟩ (fun i ys H' _ h => by obtain ⟨_, cs, rfl, h, _⟩ := h; rw [List.length_map]; omega) ?_ ?_
  · rintro i ys H' hlt ⟨rfl, cs, rfl, hl, hc⟩
    walk_at "rd"
    rename_i v
    refine nxC hlt ⟨rfl, cs ++ [v % 1000000], by rw [List.map_append]; rfl, by rw [List.length_append, hl]; rfl, fun c h => ?_⟩
    rcases List.mem_append.mp h with h | h
    · exact hc c h
    · rw [List.mem_singleton] at h; subst h
      exact ⟨Int.emod_nonneg _ (by decide), Int.emod_lt_of_pos _ (by decide)⟩
  · rintro ys H4 ⟨rfl, cs, rfl, hl, hc⟩ p4 H5 g5 n5 e5
    obtain ⟨c0, c1, c2, c3, rfl⟩ : ∃ c0 c1 c2 c3 : Int, cs = [c0, c1, c2, c3] := by
      match cs, hl with
      | [c0, c1, c2, c3], _ => exact ⟨c0, c1, c2, c3, rfl⟩
    have b0 := hc c0 (by simp)
    have b1 := hc c1 (by simp)
    have b2 := hc c2 (by simp)
    have b3 := hc c3 (by simp)
    clear hc
    have e5' : H5 p4 = some (.lst [.int c0, .int c1, .int c2, .int c3]) := e5
    clear e5
    walk_at "rd"
    refine r_kTV (g5.at e3) fun y0 l0 H6 g6 n6 e6 f6 => ?_
    walk_at "rd"
    refine r_kAt b0.1 b0.2 fun y1 H7 g7 f7 => ?_
    walk_at "rd"
    refine r_kAt b1.1 b1.2 fun y2 H8 g8 f8 => ?_
    walk_at "rd"
    refine r_kAt b2.1 b2.2 fun y3 H9 g9 f9 => ?_
    walk_at "rd"
    rename_i m HA gA nA eA
    have G39 : Same H4 H9 := g5.trans (g6.trans (g7.trans (g8.trans g9)))
    have a1 : H9 l1 = some (.lst xs1) := G39.at (g3.at (g2.at e1))
    have a2 : H9 l2 = some (.lst xs2) := G39.at (g3.at e2)
    have a3 : H9 l3 = some (.lst xs3) := G39.at e3
    have a4 : H9 p4 = some (.lst [.int c0, .int c1, .int c2, .int c3]) := g9.at (g8.at (g7.at (g6.at e5')))
    have a0 : H9 l0 = some (.lst xs3) := g9.at (g8.at (g7.at e6))
    have k0 := (f6.same g7).same (g8.trans g9)
    have k1 := (f7.same g8).same g9
    have k2 := f8.same g9
    have E1 := s1.same (g2.trans (g3.trans G39))
    have E2 := s2.same (g3.trans G39)
    have E3 := s3.same G39
    have m1 : l1 ≠ m := ne_of_none a1 nA
    have m2 : l2 ≠ m := ne_of_none a2 nA
    have m3 : l3 ≠ m := ne_of_none a3 nA
    have m4 : p4 ≠ m := ne_of_none a4 nA
    have m0 : l0 ≠ m := ne_of_none a0 nA
    have o1 : l0 ≠ l1 := (ne_of_none (g5.at (g3.at (g2.at e1))) n6).symm
    have o2 : l0 ≠ l2 := (ne_of_none (g5.at (g3.at e2)) n6).symm
    have o3 : l0 ≠ l3 := (ne_of_none (g5.at e3) n6).symm
    have p1 : p4 ≠ l1 := (ne_of_none (g3.at (g2.at e1)) n5).symm
    have p2 : p4 ≠ l2 := (ne_of_none (g3.at e2) n5).symm
    have p3 : p4 ≠ l3 := (ne_of_none e3 n5).symm
    have N1 : H l1 = none := n1
    have N2 : H l2 = none := g1.freeX n2
    have N3 : H l3 = none := (g1.trans g2).freeX n3
    have GH9 : Same H H9 := g1.trans (g2.trans (g3.trans G39))
    clear e1 e2 e3 e5' e6 f6 f7 f8 s1 s2 s3 n1 n2 n3 n5 n6
    refine r_kTR b3.1 b3.2 (gA.at a1) (gA.at a2) fun y4 q1 q2 HB gB nB1 nB2 eB1 eB2 fB1 fB2 fB3 => ?_
    have r1 : q1 ≠ m := (ne_of_none eA nB1).symm
    have r2 : q2 ≠ m := (ne_of_none eA nB2).symm
    have r11 : q1 ≠ l1 := (ne_of_none (gA.at a1) nB1).symm
    have r12 : q1 ≠ l2 := (ne_of_none (gA.at a2) nB1).symm
    have r13 : q1 ≠ l3 := (ne_of_none (gA.at a3) nB1).symm
    have r21 : q2 ≠ l1 := (ne_of_none (gA.at a1) nB2).symm
    have r22 : q2 ≠ l2 := (ne_of_none (gA.at a2) nB2).symm
    have r23 : q2 ≠ l3 := (ne_of_none (gA.at a3) nB2).symm
    have G9B := gA.trans gB
    walk_at "rd"
    refine r_append (gB.at eA) (small1000 (by show 4 ≤ 1000; decide)) ?_
    have kC : KL [m] HB (upd HB m (.lst ([.ref y0, .ref y1, .ref y2, .ref y3] ++ [.ref y4]))) := fun b o nb e => by rw [upd_ne (fun z => nb (by rw [z]; exact List.mem_singleton.mpr rfl))]; exact e
    have lC : Ls [m] HB := fun a ha => by rw [List.mem_singleton] at ha; subst ha; exact ⟨_, gB.at eA⟩
    have mC : (upd HB m (.lst ([.ref y0, .ref y1, .ref y2, .ref y3] ++ [.ref y4]))) m = some (.lst [.ref y0, .ref y1, .ref y2, .ref y3, .ref y4]) := upd_same
    have GC : Same H (upd HB m (.lst ([.ref y0, .ref y1, .ref y2, .ref y3] ++ [.ref y4]))) := fun b o e => kC b o (by rw [List.mem_singleton]; exact ne_of_none (GH9.at e) nA) (G9B.at (GH9.at e))
    generalize upd HB m (.lst ([.ref y0, .ref y1, .ref y2, .ref y3] ++ [.ref y4])) = HC at *
    have mem1 : ∀ {b : Addr}, b ≠ m → b ∉ [m] := fun h z => h (List.mem_singleton.mp z)
    replace a1 := kC _ _ (mem1 m1) (G9B.at a1)
    replace a2 := kC _ _ (mem1 m2) (G9B.at a2)
    replace a3 := kC _ _ (mem1 m3) (G9B.at a3)
    replace a4 := kC _ _ (mem1 m4) (G9B.at a4)
    replace a0 := kC _ _ (mem1 m0) (G9B.at a0)
    replace eB1 := kC _ _ (mem1 r1) eB1
    replace eB2 := kC _ _ (mem1 r2) eB2
    replace k0 := kC.fl lC (k0.same G9B)
    replace k1 := kC.fl lC (k1.same G9B)
    replace k2 := kC.fl lC (k2.same G9B)
    have k3 := kC.fl lC (f9.same G9B)
    replace fB1 := kC.fl lC fB1
    replace fB2 := kC.fl lC fB2
    replace fB3 := kC.fl lC fB3
    replace E1 := kC.els lC (E1.same G9B)
    replace E2 := kC.els lC (E2.same G9B)
    replace E3 := kC.els lC (E3.same G9B)
    clear lC kC f9 nB1 nB2 nA eA GH9
    walk_at "rd"
    rename_i d0 HD gD nD eD d1 HE gE nE eE d2 HF gF nF eF dd HG gG nG eG lf HH gH nH eH
    have GCH : Same HC HH := gD.trans (gE.trans (gF.trans (gG.trans gH)))
    have GDH : Same HD HH := gE.trans (gF.trans (gG.trans gH))
    have GEH : Same HE HH := gF.trans (gG.trans gH)
    have GFH : Same HF HH := gG.trans gH
    have w1 := GCH.at a1
    have w2 := GCH.at a2
    have w3 := GCH.at a3
    have nS : ∀ {b : Addr}, b ≠ l1 → b ≠ l2 → b ≠ l3 → b ∉ [l1, l2, l3] := fun h1 h2 h3 z => by
      simp only [List.mem_cons, List.not_mem_nil, or_false] at z
      rcases z with z | z | z
      · exact h1 z
      · exact h2 z
      · exact h3 z
    have LS : Ls [l1, l2, l3] HH := fun a ha => by
      simp only [List.mem_cons, List.not_mem_nil, or_false] at ha
      rcases ha with rfl | rfl | rfl
      · exact ⟨_, w1⟩
      · exact ⟨_, w2⟩
      · exact ⟨_, w3⟩
    have fresh : ∀ {b : Addr} {HX : Hp}, Same HC HX → HX b = none → b ∉ [l1, l2, l3] := fun g n => nS (ne_of_none (g.at a1) n).symm (ne_of_none (g.at a2) n).symm (ne_of_none (g.at a3) n).symm
    have fd0 := fresh (Same.refl _) nD
    have fd1 := fresh gD nE
    have fd2 := fresh (gD.trans gE) nF
    have fdd := fresh (gD.trans (gE.trans gF)) nG
    have flf := fresh (gD.trans (gE.trans (gF.trans gG))) nH
    refine r_kForL (SqL.of eH) (fun i σ H' => (∃ r, σ = [some (.ref a), some (.int k), some (.ref l1), some (.ref l2), some (.ref l3), some (.ref p4), some (.ref m), some (.ref dd), r]) ∧ KL [l1, l2, l3] HH H' ∧ ∀ l, l ∈ [l1, l2, l3] → ∃ ys, H' l = some (.lst ys) ∧ ys.length ≤ 4 + i) ⟨⟨none, rfl⟩, fun b o _ e => e, fun l hl => ?_⟩ (fun i σ H' _ h => SqL.of (h.2.1 _ _ flf eH)) ?_ ?_
    · simp only [List.mem_cons, List.not_mem_nil, or_false] at hl
      rcases hl with rfl | rfl | rfl
      · exact ⟨_, w1, by omega⟩
      · exact ⟨_, w2, by omega⟩
      · exact ⟨_, w3, by omega⟩
    · rintro i x σ H' hx ⟨⟨r, rfl⟩, kk, hv⟩
      have hi : i < 3 := (List.getElem?_eq_some_iff.mp hx).1
      obtain ⟨l, hm, rfl⟩ : ∃ l, l ∈ [l1, l2, l3] ∧ x = .ref l := by
        have := List.mem_of_getElem? hx
        simp only [List.mem_cons, List.not_mem_nil, or_false] at this
        rcases this with rfl | rfl | rfl
        · exact ⟨_, by simp, rfl⟩
        · exact ⟨_, by simp, rfl⟩
        · exact ⟨_, by simp, rfl⟩
      obtain ⟨ys, hy, hz⟩ := hv l hm
      walk_at "rd"
      refine r_append hy (small1000 (by omega)) ?_
      walk_at "rd"
      refine ⟨⟨_, rfl⟩, fun b o nb e => ?_, fun l' hl' => ?_⟩
      · rw [upd_ne (fun z => nb (by rw [z]; exact hm))]; exact kk b o nb e
      · by_cases z : l' = l
        · subst z; exact ⟨_, upd_same, by rw [List.length_append]; show ys.length + 1 ≤ _; omega⟩
        · obtain ⟨ys', hy', hz'⟩ := hv l' hl'
          exact ⟨ys', by rw [upd_ne z]; exact hy', by omega⟩
    · rintro σ H' ⟨⟨r, rfl⟩, kk, hv⟩
      have GH' : Same H H' := fun b o e => kk b o (nS (fun z => ?_) (fun z => ?_) (fun z => ?_)) (GCH.at (GC.at e))
      · have a0' := kk _ _ (nS o1 o2 o3) (GCH.at a0)
        have MD : Mde (kinds c_NoNumber c_NoFigures c_NoGroups c_NoBody c_NoCore c_NoValue c_TooGreat c_TooWide c_NoText c_NoSheet c_NoRow c_TwoValues c_NoForm c_NoLine c_TooMany c_TwoRows) H' m dd :=
          ⟨y0, y1, y2, y3, y4, l0, q1, q2, d0, d1, d2, p4, xs3, xs1, xs2, D3, D1, D2, c0, c1, c2, c3, kk _ _ (nS m1.symm m2.symm m3.symm) (GCH.at mC), kk.fl LS (k0.same GCH), kk.fl LS (k1.same GCH), kk.fl LS (k2.same GCH), kk.fl LS (k3.same GCH), kk.fl LS (fB1.same GCH), kk.fl LS (fB2.same GCH), kk.fl LS (fB3.same GCH),
            a0', kk _ _ (nS r11 r12 r13) (GCH.at eB1), kk _ _ (nS r21 r22 r23) (GCH.at eB2), kk.els LS (E3.same GCH), kk.els LS (E1.same GCH), kk.els LS (E2.same GCH), kk _ _ fdd (gH.at eG), kk _ _ (nS p1 p2 p3) (GCH.at a4), kk _ _ fd0 (GDH.at eD), kk _ _ fd1 (GEH.at eE), kk _ _ fd2 (GFH.at eF)⟩
        walk_at "rd"
        rename_i p6 H6' g6' e6'
        exact q _ _ _ _ (GH'.trans g6') e6' (MD.same g6')
      · exact ne_of_none e N1 z
      · exact ne_of_none e N2 z
      · exact ne_of_none e N3 z
theorem ok_law_fields {f : Addr} {fd : FuncData} (F : Fun K "_law_fields" "_law_fields" s_law_fields f fd) (B : Blt mg) {c_NoNumber : Addr} {c_NoFigures : Addr} {c_NoGroups : Addr} {c_NoBody : Addr} {c_NoCore : Addr} {c_NoValue : Addr} {c_TooGreat : Addr} {c_TooWide : Addr} {c_NoText : Addr} {c_NoSheet : Addr} {c_NoRow : Addr} {c_TwoValues : Addr} {c_NoForm : Addr} {c_NoLine : Addr} {c_TooMany : Addr} {c_TwoRows : Addr} {c_PadError : Addr} (Z : Zs K mg c_NoNumber c_NoFigures c_NoGroups c_NoBody c_NoCore c_NoValue c_TooGreat c_TooWide c_NoText c_NoSheet c_NoRow c_TwoValues c_NoForm c_NoLine c_TooMany c_TwoRows c_PadError) (C_law_is_list : Has P w K mg base "_law_is_list" 1 ["_law_found", "_law_due"] (sp_law_is_list K)) (C_law_whole : Has P w K mg base "_law_whole" 1 ["_law_found"] (sp_law_whole K)) : FnOk P w K mg base CX0 2 f fd ["_law_made_here", "_law_due"] (sp_law_fields K (kinds c_NoNumber c_NoFigures c_NoGroups c_NoBody c_NoCore c_NoValue c_TooGreat c_TooWide c_NoText c_NoSheet c_NoRow c_TwoValues c_NoForm c_NoLine c_TooMany c_TwoRows)) := by
  refine F.ok sc_law_fields (fun vs H Q E h => ?_) (fun cdv A outer s H vs Q E hr h => ?_)
  · obtain ⟨m, d, rfl, M, q⟩ := h
    rfl
  obtain ⟨m, d, rfl, M, q⟩ := h
  refine ⟨_, pss_cons (ps_set (i := 2) sc_law_fields.nd rfl (Or.inl rfl) (pe_lst (pa_cons (pe_xf (pe_ix ix_list (pv 0) (pe_int) (fun _ _ => rfl)) rfl) (pa_cons (pe_xf (pe_ix ix_list (pv 0) (pe_int) (fun _ _ => rfl)) rfl) (pa_cons (pe_xf (pe_ix ix_list (pv 0) (pe_int) (fun _ _ => rfl)) rfl) (pa_cons (pe_xf (pe_ix ix_list (pv 0) (pe_int) (fun _ _ => rfl)) rfl) (pa_nil)))))))
    (pss_cons (ps_for PassesOwn.never rfl (pi_list (pv 2)) (pg_name (i := 3) sc_law_fields.nd rfl (Or.inl rfl)) (pss_one (ps_if (pt_not (pt_val (pe_callH C_law_whole hr rfl (pa_cons (pv 3) (pa_nil))))) (pss_one (ps_ret (pe_bl))) (pss_nil))))
    (pss_cons (ps_if (PW.pt (pw_or (pt_cmpR (op_neD (hu20 hr)) (pv 2) (pe_ix ix_list (pv 1) (pe_int) (fun _ _ => rfl)) (nomark _)) (pw_or1 (pt_not (pt_val (pe_callH C_law_is_list hr rfl (pa_cons (pe_xf (pe_ix ix_list (pv 0) (pe_int) (fun _ _ => rfl)) rfl) (pa_cons (pe_ix ix_list (pv 1) (pe_int) (fun _ _ => rfl)) (pa_nil))))))))) (pss_one (ps_ret (pe_bl))) (pss_nil))
    (pss_one (ps_ret (pe_and (pe_callH C_law_is_list hr rfl (pa_cons (pe_xf (pe_ix ix_list (pv 0) (pe_int) (fun _ _ => rfl)) rfl) (pa_cons (pe_ix ix_list (pv 1) (pe_int) (fun _ _ => rfl)) (pa_nil)))) (pe_one (pe_callH C_law_is_list hr rfl (pa_cons (pe_xf (pe_ix ix_list (pv 0) (pe_int) (fun _ _ => rfl)) rfl) (pa_cons (pe_ix ix_list (pv 1) (pe_int) (fun _ _ => rfl)) (pa_nil)))))))))), ?_⟩
  walk_at "st"
  obtain ⟨e0, e1, e2, e3, e4, l0, l1, l2, d0, d1, d2, dc, xs0, xs1, xs2, D0, D1, D2, n0, n1, n2, n3, a1, a2, a3, a4, a5, a6, a7, a8, a9, a10, a11, a12, a13, a14, a15, a16, a17, a18, a19⟩ := M
  replace a2 : Fl H e0 c_TwoValues "told" (.ref l0) := a2
  replace a3 : Fl H e1 c_NoForm "at" (.int n0) := a3
  replace a4 : Fl H e2 c_NoLine "at" (.int n1) := a4
  replace a5 : Fl H e3 c_TooMany "number" (.int n2) := a5
  replace a6 : Fl H e4 c_TwoRows "at" (.int n3) := a6
  replace a7 : Fl H e4 c_TwoRows "one" (.ref l1) := a7
  replace a8 : Fl H e4 c_TwoRows "other" (.ref l2) := a8
  walk_at "rd"
  refine r_kXf a3 Z.b_NoForm Z.x_NoForm_at ?_
  walk_at "rd"
  refine r_kXf a4 Z.b_NoLine Z.x_NoLine_at ?_
  walk_at "rd"
  refine r_kXf a5 Z.b_TooMany Z.x_TooMany_number ?_
  walk_at "rd"
  refine r_kXf a6 Z.b_TwoRows Z.x_TwoRows_at ?_
  walk_at "rd"
  rename_i lp H1 g1 n1' e1'
  have EL : Els H1 [.int n0, .int n1, .int n2, .int n3] [.int n0, .int n1, .int n2, .int n3] := .cons (.int _) (.cons (.int _) (.cons (.int _) (.cons (.int _) .nil)))
  refine r_kForL (SqL.of e1') (fun i σ H' => H' = H1 ∧ ∃ r, σ = [some (.ref m), some (.ref d), some (.ref lp), r]) ⟨rfl, none, rfl⟩ (fun i σ H' _ h => by rw [h.1]; exact SqL.of e1') ?_ ?_
  · rintro i x σ H' hx ⟨rfl, r, rfl⟩
    obtain ⟨n, rfl⟩ : ∃ n : Int, x = .int n := by
      have := List.mem_of_getElem? hx
      simp only [List.mem_cons, List.not_mem_nil, or_false] at this
      rcases this with rfl | rfl | rfl | rfl
      all_goals exact ⟨_, rfl⟩
    walk_at "rd"
    exact ⟨rfl, _, rfl⟩
  · rintro σ H' ⟨rfl, r, rfl⟩
    have b1 := g1.at a1
    have b15 := g1.at a15
    have b16 := g1.at a16
    walk_at "rd"
    obtain ⟨t1, t2, t3⟩ := EL.list (K := K) e1'
    obtain ⟨u1, u2, u3⟩ := EL.list (K := K) b16
    refine r_neD t1 u1 t2 t3 ?_
    walk_at "rd"
    refine r_kXf (a2.same g1) Z.b_TwoValues Z.x_TwoValues_told ?_
    walk_at "rd"
    refine c_is_list (g1.at a9) (g1.at a17) (a12.same g1) (a12.same g1) ?_
    walk_at "rd"
    refine r_kXf (a7.same g1) Z.b_TwoRows Z.x_TwoRows_one ?_
    walk_at "rd"
    refine c_is_list (g1.at a10) (g1.at a18) (a13.same g1) (a13.same g1) ?_
    walk_at "rd"
    refine r_kXf (a8.same g1) Z.b_TwoRows Z.x_TwoRows_other ?_
    walk_at "rd"
    refine c_is_list (g1.at a11) (g1.at a19) (a14.same g1) (a14.same g1) ?_
    walk_at "rd"
    exact q _ g1
theorem Kd.same {cs : List Addr} {H H' : Hp} {xs : List V} {a n : Nat} (g : Same H H') (h : Kd cs H xs a n) : Kd cs H' xs a n := ⟨h.1, fun i hi => let ⟨x, e, z⟩ := h.2 i hi; ⟨x, e, z.same g⟩⟩
theorem Kd.app {cs : List Addr} {H : Hp} {xs ys : List V} {n k : Nat} (h1 : Kd cs H xs 0 n) (h2 : Kd cs H ys n k) : Kd cs H (xs ++ ys) 0 (n + k) := by
  refine ⟨by rw [List.length_append, h1.1, h2.1], fun i hi => ?_⟩
  by_cases z : i < n
  · obtain ⟨x, e, w⟩ := h1.2 i z
    exact ⟨x, by rw [List.getElem?_append_left (by rw [h1.1]; exact z)]; exact e, w⟩
  · obtain ⟨x, e, w⟩ := h2.2 (i - n) (by omega)
    refine ⟨x, by rw [List.getElem?_append_right (by rw [h1.1]; omega), h1.1]; exact e, ?_⟩
    rw [show 0 + i = n + (i - n) by omega]; exact w
theorem Mde.kd {cs : List Addr} {H : Hp} {m d : Addr} (h : Mde cs H m d) : ∃ xs, H m = some (.lst xs) ∧ Kd cs H xs 11 5 := by
  obtain ⟨e0, e1, e2, e3, e4, l0, l1, l2, d0, d1, d2, dc, xs0, xs1, xs2, D0, D1, D2, n0, n1, n2, n3, a1, a2, a3, a4, a5, a6, _⟩ := h
  refine ⟨_, a1, rfl, fun i hi => ?_⟩
  rcases (show i = 0 ∨ i = 1 ∨ i = 2 ∨ i = 3 ∨ i = 4 by omega) with rfl | rfl | rfl | rfl | rfl
  · exact ⟨_, rfl, a2.isEx⟩
  · exact ⟨_, rfl, a3.isEx⟩
  · exact ⟨_, rfl, a4.isEx⟩
  · exact ⟨_, rfl, a5.isEx⟩
  · exact ⟨_, rfl, a6.isEx⟩
theorem dts_bl {K : PySem.W.Frag} {H : Hp} : ∀ (bs : List Bool), Dts K H (bs.map V.bl) (bs.map PyData.bool) ∧ PyData.canLayAll0 (bs.map PyData.bool) = true ∧ PyData.depthAll (bs.map PyData.bool) ≤ 3
  | [] => ⟨.nil, by simp [PyData.canLayAll0], by simp [PyData.depthAll]⟩
  | b :: bs => by
    obtain ⟨h1, h2, h3⟩ := dts_bl (K := K) (H := H) bs
    exact ⟨.cons (.bl b) h1, by simp [PyData.canLayAll0, PyData.canLay0, h2], by simp only [List.map_cons, PyData.depthAll, PyData.depth]; omega⟩
theorem list_bl {K : PySem.W.Frag} {H : Hp} {p : Addr} {bs : List Bool} (e : H p = some (.lst (bs.map V.bl))) : Dt K H (.ref p) (.list (bs.map PyData.bool)) ∧ (PyData.list (bs.map PyData.bool)).canLay0 = true ∧ (PyData.list (bs.map PyData.bool)).depth ≤ 20 := by
  obtain ⟨a, b, c⟩ := dts_bl (K := K) (H := H) bs
  exact ⟨.lst (SqL.of e) a, by simp [PyData.canLay0, b], by simp only [PyData.depth]; omega⟩
theorem excb_at {c_NoNumber c_NoFigures c_NoGroups c_NoBody c_NoCore c_NoValue c_TooGreat c_TooWide c_NoText c_NoSheet c_NoRow c_TwoValues c_NoForm c_NoLine c_TooMany c_TwoRows c_PadError : Addr} (Z : Zs K mg c_NoNumber c_NoFigures c_NoGroups c_NoBody c_NoCore c_NoValue c_TooGreat c_TooWide c_NoText c_NoSheet c_NoRow c_TwoValues c_NoForm c_NoLine c_TooMany c_TwoRows c_PadError) {i : Nat} (hi : i < 16) : ExcB K ((kinds c_NoNumber c_NoFigures c_NoGroups c_NoBody c_NoCore c_NoValue c_TooGreat c_TooWide c_NoText c_NoSheet c_NoRow c_TwoValues c_NoForm c_NoLine c_TooMany c_TwoRows).getD i 0) := by
  rcases (show i = 0 ∨ i = 1 ∨ i = 2 ∨ i = 3 ∨ i = 4 ∨ i = 5 ∨ i = 6 ∨ i = 7 ∨ i = 8 ∨ i = 9 ∨ i = 10 ∨ i = 11 ∨ i = 12 ∨ i = 13 ∨ i = 14 ∨ i = 15 by omega) with rfl | rfl | rfl | rfl | rfl | rfl | rfl | rfl | rfl | rfl | rfl | rfl | rfl | rfl | rfl | rfl
  · exact Z.e_NoNumber.b
  · exact Z.e_NoFigures.b
  · exact Z.e_NoGroups.b
  · exact Z.e_NoBody.b
  · exact Z.e_NoCore.b
  · exact Z.e_NoValue.b
  · exact Z.e_TooGreat.b
  · exact Z.e_TooWide.b
  · exact Z.e_NoText.b
  · exact Z.e_NoSheet.b
  · exact Z.e_NoRow.b
  · exact Z.b_TwoValues
  · exact Z.b_NoForm
  · exact Z.b_NoLine
  · exact Z.b_TooMany
  · exact Z.b_TwoRows
theorem kind_in {c_NoNumber c_NoFigures c_NoGroups c_NoBody c_NoCore c_NoValue c_TooGreat c_TooWide c_NoText c_NoSheet c_NoRow c_TwoValues c_NoForm c_NoLine c_TooMany c_TwoRows : Addr} {i : Nat} (hi : i < 16) : (kinds c_NoNumber c_NoFigures c_NoGroups c_NoBody c_NoCore c_NoValue c_TooGreat c_TooWide c_NoText c_NoSheet c_NoRow c_TwoValues c_NoForm c_NoLine c_TooMany c_TwoRows).getD i 0 ∈ [c_NoNumber, c_NoFigures, c_NoGroups, c_NoBody, c_NoCore, c_NoValue, c_TooGreat, c_TooWide, c_NoText, c_NoSheet, c_NoRow, c_TwoValues, c_NoForm, c_NoLine, c_TooMany, c_TwoRows] := by
  show (kinds c_NoNumber c_NoFigures c_NoGroups c_NoBody c_NoCore c_NoValue c_TooGreat c_TooWide c_NoText c_NoSheet c_NoRow c_TwoValues c_NoForm c_NoLine c_TooMany c_TwoRows).getD i 0 ∈ kinds c_NoNumber c_NoFigures c_NoGroups c_NoBody c_NoCore c_NoValue c_TooGreat c_TooWide c_NoText c_NoSheet c_NoRow c_TwoValues c_NoForm c_NoLine c_TooMany c_TwoRows
  rw [List.getD_eq_getElem?_getD, List.getElem?_eq_getElem (show i < (kinds c_NoNumber c_NoFigures c_NoGroups c_NoBody c_NoCore c_NoValue c_TooGreat c_TooWide c_NoText c_NoSheet c_NoRow c_TwoValues c_NoForm c_NoLine c_TooMany c_TwoRows).length from hi)]
  exact List.getElem_mem _
theorem ok_law {f : Addr} {fd : FuncData} (F : Fun K "law" "law" s_law f fd) (B : Blt mg) {c_NoNumber : Addr} {c_NoFigures : Addr} {c_NoGroups : Addr} {c_NoBody : Addr} {c_NoCore : Addr} {c_NoValue : Addr} {c_TooGreat : Addr} {c_TooWide : Addr} {c_NoText : Addr} {c_NoSheet : Addr} {c_NoRow : Addr} {c_TwoValues : Addr} {c_NoForm : Addr} {c_NoLine : Addr} {c_TooMany : Addr} {c_TwoRows : Addr} {c_PadError : Addr} (Z : Zs K mg c_NoNumber c_NoFigures c_NoGroups c_NoBody c_NoCore c_NoValue c_TooGreat c_TooWide c_NoText c_NoSheet c_NoRow c_TwoValues c_NoForm c_NoLine c_TooMany c_TwoRows c_PadError) (C_law_made : Has P w K mg base "_law_made" 3 ["_law_script", "_law_k"] (sp_law_made K (kinds c_NoNumber c_NoFigures c_NoGroups c_NoBody c_NoCore c_NoValue c_TooGreat c_TooWide c_NoText c_NoSheet c_NoRow c_TwoValues c_NoForm c_NoLine c_TooMany c_TwoRows))) (C_law_plain : Has P w K mg base "_law_plain" 1 ["_law_bare"] (sp_law_plain K (kinds c_NoNumber c_NoFigures c_NoGroups c_NoBody c_NoCore c_NoValue c_TooGreat c_TooWide c_NoText c_NoSheet c_NoRow c_TwoValues c_NoForm c_NoLine c_TooMany c_TwoRows))) (C_law_flags : Has P w K mg base "_law_flags" 1 ["_law_e"] (sp_law_flags K (kinds c_NoNumber c_NoFigures c_NoGroups c_NoBody c_NoCore c_NoValue c_TooGreat c_TooWide c_NoText c_NoSheet c_NoRow c_TwoValues c_NoForm c_NoLine c_TooMany c_TwoRows))) (C_law_fields : Has P w K mg base "_law_fields" 2 ["_law_made_here", "_law_due"] (sp_law_fields K (kinds c_NoNumber c_NoFigures c_NoGroups c_NoBody c_NoCore c_NoValue c_TooGreat c_TooWide c_NoText c_NoSheet c_NoRow c_TwoValues c_NoForm c_NoLine c_TooMany c_TwoRows))) (C_law_draw : Has P w K mg base "_law_draw" 1 ["_law_cell_here", "_law_salt", "_law_many"] (sp_law_draw K)) (C_law_cell : Has P w K mg base "_law_cell" 1 ["_law_script", "_law_k"] (sp_law_cell K)) : FnOk P w K mg base CX0 4 f fd ["_law_script"] (sp_law K) := by
  refine F.ok sc_law (fun vs H Q E h => ?_) (fun cdv A outer s H vs Q E hr h => ?_)
  · obtain ⟨a, ns, rfl, hS, h63, k⟩ := h
    rfl
  obtain ⟨a, ns, rfl, hS, h63, k⟩ := h
  refine ⟨_, pss_cons (ps_asg (pe_callH C_law_made hr rfl (pa_cons (pv 0) (pa_cons (pe_int) (pa_nil)))) (pg_tup rfl (pgs_cons (pg_name (i := 1) sc_law.nd rfl (Or.inl rfl)) (pgs_cons (pg_name (i := 2) sc_law.nd rfl (Or.inl rfl)) (pgs_nil)))))
    (pss_cons (ps_asg (pe_callH C_law_made hr rfl (pa_cons (pv 0) (pa_cons (pe_int) (pa_nil)))) (pg_tup rfl (pgs_cons (pg_name (i := 3) sc_law.nd rfl (Or.inl rfl)) (pgs_cons (pg_name (i := 4) sc_law.nd rfl (Or.inl rfl)) (pgs_nil)))))
    (pss_cons (ps_set (i := 5) sc_law.nd rfl (Or.inl rfl) (pe_op op_cat (pe_callH C_law_plain hr rfl (pa_cons (pe_cmpR op_eq (pe_callH C_law_draw hr rfl (pa_cons (pe_callH C_law_cell hr rfl (pa_cons (pv 0) (pa_cons (pe_int) (pa_nil)))) (pa_cons (pe_int) (pa_cons (pe_int) (pa_nil))))) (pe_int) (nomark _)) (pa_nil))) (pv 1)))
    (pss_cons (ps_for PassesOwn.never rfl (pi_range1 rfl B.z_range (pa_cons (pe_int) (pa_nil))) (pg_name (i := 6) sc_law.nd rfl (Or.inr rfl)) (pss_cons (ps_if (PW.pt (pw_or (pt_not (pt_val (pe_callBH call_isiE B.z_isinstance rfl bo_isinstance (pa_cons (pe_ix ix_list (pv 5) (pv 6) (fun _ _ => rfl)) (pa_cons (pe_glob rfl Z.m_PadError (v := .ref c_PadError) rfl) (pa_nil)))))) (pw_or1 (pt_not (pt_val (pe_callBH call_isiE B.z_isinstance rfl bo_isinstance (pa_cons (pe_ix ix_list (pv 5) (pv 6) (fun _ _ => rfl)) (pa_cons (pe_bltn rfl B.z_ValueError bo_ValueError (v := .ty "ValueError") rfl) (pa_nil))))))))) (pss_one (ps_ret (pe_bl))) (pss_nil))
    (pss_one (ps_if (pt_cmpR (op_neD (hu20 hr)) (pe_callH C_law_flags hr rfl (pa_cons (pe_ix ix_list (pv 5) (pv 6) (fun _ _ => rfl)) (pa_nil))) (pe_comp (cl := [("_law_k", s.heap.objs.size + 1 + 0)]) (fr := ["_law_k"]) (is := [6]) rfl rfl ⟨rfl, trivial⟩ rfl ⟨⟨rfl, rfl, Or.inl rfl⟩, trivial⟩ (by decide) (by decide +kernel) rfl (by decide +kernel) rfl (pi_range1 rfl B.z_range (pa_cons (pe_int) (pa_nil))) (fun _ _ _ _ => pifs_nil) (fun _ _ _ _ => pe_cmpR op_eq (pv 0) (pv 1) (nomark _))) (nomark _)) (pss_one (ps_ret (pe_bl))) (pss_nil)))))
    (pss_cons (ps_if (pt_cmpR op_in_seq (pe_bl) (pe_callH C_law_flags hr rfl (pa_cons (pe_exc Z.e_PadError Z.k_PadError rfl Z.m_PadError (pa_cons (pe_str) (pa_nil))) (pa_nil))) (by with_unfolding_all rfl)) (pss_one (ps_ret (pe_bl))) (pss_nil))
    (pss_one (ps_ret (pe_and (pe_callH C_law_fields hr rfl (pa_cons (pv 3) (pa_cons (pv 4) (pa_nil)))) (pe_one (pe_callH C_law_fields hr rfl (pa_cons (pv 1) (pa_cons (pv 2) (pa_nil)))))))))))), ?_⟩
  walk_at "st"
  walk_at "rd"
  refine ⟨a, ns, 0, rfl, hS, by omega, fun p1 m1 d1 H1 g1 e1 M1 => ?_⟩
  walk_at "rd"
  refine ⟨a, ns, 7, rfl, g1.seq hS, by omega, fun p2 m2 d2 H2 g2 e2 M2 => ?_⟩
  have hS2 := g2.seq (g1.seq hS)
  walk_at "rd"
  refine ⟨_, rfl, fun l3 H3 xs3 g3 e3 K3 => ?_⟩
  obtain ⟨ys, eM, KM⟩ := (M1.same (g2.trans g3)).kd
  walk_at "rd"
  refine r_cat e3 eM (small (by rw [K3.1, KM.1]; decide)) fun p4 H4 g4 e4 => ?_
  have KA := (K3.app KM).same g4
  have M1' := M1.same (g2.trans (g3.trans g4))
  have M2' := M2.same (g3.trans g4)
  have eM4 := g4.at eM
  walk_at "rd"
  refine r_kForR (by decide) (by decide) (fun i σ H' => Same H4 H' ∧ ∃ r, σ = [some (.ref a), some (.ref m1), some (.ref d1), some (.ref m2), some (.ref d2), some (.ref p4), r]) ⟨Same.refl _, none, rfl⟩ ?_ ?_
  · rintro i σ H5 hlt ⟨gg, r, rfl⟩
    have hlt' : i < 16 := hlt
    obtain ⟨x, hx, ex⟩ := (KA.same gg).2 i hlt'
    rw [Nat.zero_add] at ex
    have eb := excb_at Z hlt'
    obtain ⟨k1, k2, k3⟩ := kit_p Z.kp (kind_in hlt')
    have kr : ∀ j, j < 16 → PySem.W.kitOne K (.ref ((kinds c_NoNumber c_NoFigures c_NoGroups c_NoBody c_NoCore c_NoValue c_TooGreat c_TooWide c_NoText c_NoSheet c_NoRow c_TwoValues c_NoForm c_NoLine c_TooMany c_TwoRows).getD i 0)) (.ref ((kinds c_NoNumber c_NoFigures c_NoGroups c_NoBody c_NoCore c_NoValue c_TooGreat c_TooWide c_NoText c_NoSheet c_NoRow c_TwoValues c_NoForm c_NoLine c_TooMany c_TwoRows).getD j 0)) = some (i == j) := fun j hj => kit_at (cs := kinds c_NoNumber c_NoFigures c_NoGroups c_NoBody c_NoCore c_NoValue c_TooGreat c_TooWide c_NoText c_NoSheet c_NoRow c_TwoValues c_NoForm c_NoLine c_TooMany c_TwoRows) Z.kt hlt' hj
    generalize (kinds c_NoNumber c_NoFigures c_NoGroups c_NoBody c_NoCore c_NoValue c_TooGreat c_TooWide c_NoText c_NoSheet c_NoRow c_TwoValues c_NoForm c_NoLine c_TooMany c_TwoRows).getD i 0 = C at *
    have e5 := gg.at e4
    have ixr : ∀ {Q : VK} {HX : Hp}, HX p4 = some (.lst (xs3 ++ ys)) → Q (.ref x) HX → rIxL K (.ref p4) (.int (0 + i)) HX Q := fun {Q HX} e q => r_ixAll (SqL.of e) (by omega) (by rw [List.length_append, K3.1, KM.1]; omega) fun y hy => by
      rw [show (0 + (i : Int)).toNat = i by omega, hx] at hy
      cases hy
      exact q
    walk_at "rd"
    refine ixr e5 ?_
    walk_at "rd"
    refine ixr e5 ?_
    walk_at "rd"
    refine r_isiE ex eb (.inl ⟨_, rfl⟩) k2 ?_
    walk_at "rd"
    refine ixr e5 ?_
    walk_at "rd"
    refine ⟨x, C, fun j => i == j, rfl, ex, eb, kr, fun l6 H6 g6 e6 => ?_⟩
    walk_at "rd"
    refine r_kCompR (by decide) (by decide) (small (by decide)) (fun n ys H' => H' = H6 ∧ ys = ((List.range n).map fun j => (i == j)).map V.bl) ⟨rfl, rfl⟩ (fun n ys H' _ h => by rw [h.2]; simp) ?_ ?_
    · rintro n ys H' hn ⟨rfl, rfl⟩
      walk_at "rd"
      refine nxC hn ⟨rfl, ?_⟩
      rw [List.range_succ, List.map_append, List.map_append, show decide ((0 + (n : Int)) = 0 + (i : Int)) = (i == n) from by rw [Bool.eq_iff_iff, decide_eq_true_iff, beq_iff_eq]; omega]
      rfl
    · rintro ys H' ⟨rfl, rfl⟩ p7 H7 g7 e7
      have e6' : H' l6 = some (.lst (((List.range 16).map fun j => (i == j)).map V.bl)) := by rw [e6, List.map_map]; rfl
      obtain ⟨t1, t2, t3⟩ := list_bl (K := K) (g7.at e6')
      obtain ⟨u1, u2, u3⟩ := list_bl (K := K) (p := p7) (H := H7) (bs := (List.range 16).map fun j => (i == j)) e7
      refine r_neD t1 u1 t2 t3 ?_
      walk_at "rd"
      exact ⟨gg.trans (g6.trans g7), _, rfl⟩
  · rintro σ H5 ⟨gg, r, rfl⟩
    walk_at "rd"
    rename_i y H6 g6 e6
    refine ⟨y, c_PadError, fun _ => false, rfl, .n e6, Z.e_PadError.b, fun j hj => (kit_p Z.kp (kind_in hj)).2.2, fun l7 H7 g7 e7 => ?_⟩
    refine ⟨l7, _, rfl, .inl (SqL.of e7), rfl, by decide, ?_⟩
    have GM : Same H4 H7 := gg.trans (g6.trans g7)
    refine ⟨false, congrArg V.bl (by decide), ?_⟩
    walk_at "rd"
    refine ⟨m2, d2, rfl, M2'.same GM, fun H8 g8 => ?_⟩
    walk_at "rd"
    refine ⟨m1, d1, rfl, M1'.same (GM.trans g8), fun H9 g9 => ?_⟩
    walk_at "rd"
    exact k _
end
theorem all_mk {l : PySem.W.OpenLaw} {w : World} {K : PySem.W.Frag} {h : Heap} {mg : Str → Option Value} {fa f0 f1 f2 f3 f4 f5 f6 f7 f8 f9 f10 f11 f12 f13 f14 : Addr} (X : K.In h) (G : h.Ns mainGlobals mg) (hfa : mg "law" = some (.ref fa))
    {od0 an0 od1 an1 od2 an2 od3 an3 od4 an4 od5 an5 od6 an6 od7 an7 od8 an8 od9 an9 od10 an10 od11 an11 od12 an12 od13 an13 od14 an14 : Option Addr} {sl0 sl1 sl2 sl3 sl4 sl5 sl6 sl7 sl8 sl9 sl10 sl11 sl12 sl13 sl14 : Array (Option Value)} {oc0 kV0 dc0 pm0 cd0 ct0 oc1 kV1 dc1 pm1 cd1 ct1 oc2 kV2 dc2 pm2 cd2 ct2 oc3 kV3 dc3 pm3 cd3 ct3 oc4 kV4 dc4 pm4 cd4 ct4 oc5 kV5 dc5 pm5 cd5 ct5 oc6 kV6 dc6 pm6 cd6 ct6 oc7 kV7 dc7 pm7 cd7 ct7 oc8 kV8 dc8 pm8 cd8 ct8 oc9 kV9 dc9 pm9 cd9 ct9 oc10 kV10 dc10 pm10 cd10 ct10 oc11 kV11 dc11 pm11 cd11 ct11 oc12 kV12 dc12 pm12 cd12 ct12 oc13 kV13 dc13 pm13 cd13 ct13 oc14 kV14 dc14 pm14 cd14 ct14 : Value} {c_NoNumber c_NoFigures c_NoGroups c_NoBody c_NoCore c_NoValue c_TooGreat c_TooWide c_NoText c_NoSheet c_NoRow c_TwoValues c_NoForm c_NoLine c_TooMany c_TwoRows c_PadError : Addr}
    (a0 : PySem.W.findIn K (.ref c_TwoValues) "__init__" = some (some (.ref f0))) (l0 : K.lookup f0 = some ⟨oc0, od0, .func (PySem.W.fnOf "__init__" "TwoValues.__init__" (defArgs s_TwoValues___init__) (defBody s_TwoValues___init__) (defScope s_TwoValues___init__) .none kV0 dc0 pm0 an0 cd0 ct0), sl0⟩) (c0 : PySem.W.codeIn K cd0 "TwoValues.__init__" = true) (k0 : PySem.W.keepIn K (.ref f0) = true)
    (a1 : PySem.W.findIn K (.ref c_NoForm) "__init__" = some (some (.ref f1))) (l1 : K.lookup f1 = some ⟨oc1, od1, .func (PySem.W.fnOf "__init__" "NoForm.__init__" (defArgs s_NoForm___init__) (defBody s_NoForm___init__) (defScope s_NoForm___init__) .none kV1 dc1 pm1 an1 cd1 ct1), sl1⟩) (c1 : PySem.W.codeIn K cd1 "NoForm.__init__" = true) (k1 : PySem.W.keepIn K (.ref f1) = true)
    (a2 : PySem.W.findIn K (.ref c_NoLine) "__init__" = some (some (.ref f2))) (l2 : K.lookup f2 = some ⟨oc2, od2, .func (PySem.W.fnOf "__init__" "NoLine.__init__" (defArgs s_NoLine___init__) (defBody s_NoLine___init__) (defScope s_NoLine___init__) .none kV2 dc2 pm2 an2 cd2 ct2), sl2⟩) (c2 : PySem.W.codeIn K cd2 "NoLine.__init__" = true) (k2 : PySem.W.keepIn K (.ref f2) = true)
    (a3 : PySem.W.findIn K (.ref c_TooMany) "__init__" = some (some (.ref f3))) (l3 : K.lookup f3 = some ⟨oc3, od3, .func (PySem.W.fnOf "__init__" "TooMany.__init__" (defArgs s_TooMany___init__) (defBody s_TooMany___init__) (defScope s_TooMany___init__) .none kV3 dc3 pm3 an3 cd3 ct3), sl3⟩) (c3 : PySem.W.codeIn K cd3 "TooMany.__init__" = true) (k3 : PySem.W.keepIn K (.ref f3) = true)
    (a4 : PySem.W.findIn K (.ref c_TwoRows) "__init__" = some (some (.ref f4))) (l4 : K.lookup f4 = some ⟨oc4, od4, .func (PySem.W.fnOf "__init__" "TwoRows.__init__" (defArgs s_TwoRows___init__) (defBody s_TwoRows___init__) (defScope s_TwoRows___init__) .none kV4 dc4 pm4 an4 cd4 ct4), sl4⟩) (c4 : PySem.W.codeIn K cd4 "TwoRows.__init__" = true) (k4 : PySem.W.keepIn K (.ref f4) = true)
    (a5 : PySem.W.nsIn K mainGlobals "_law_cell" = some (some (.ref f5))) (l5 : K.lookup f5 = some ⟨oc5, od5, .func (PySem.W.fnOf "_law_cell" "_law_cell" (defArgs s_law_cell) (defBody s_law_cell) (defScope s_law_cell) .none kV5 dc5 pm5 an5 cd5 ct5), sl5⟩) (c5 : PySem.W.codeIn K cd5 "_law_cell" = true) (k5 : PySem.W.keepIn K (.ref f5) = true)
    (a6 : PySem.W.nsIn K mainGlobals "_law_draw" = some (some (.ref f6))) (l6 : K.lookup f6 = some ⟨oc6, od6, .func (PySem.W.fnOf "_law_draw" "_law_draw" (defArgs s_law_draw) (defBody s_law_draw) (defScope s_law_draw) .none kV6 dc6 pm6 an6 cd6 ct6), sl6⟩) (c6 : PySem.W.codeIn K cd6 "_law_draw" = true) (k6 : PySem.W.keepIn K (.ref f6) = true)
    (a7 : PySem.W.nsIn K mainGlobals "_law_whole" = some (some (.ref f7))) (l7 : K.lookup f7 = some ⟨oc7, od7, .func (PySem.W.fnOf "_law_whole" "_law_whole" (defArgs s_law_whole) (defBody s_law_whole) (defScope s_law_whole) .none kV7 dc7 pm7 an7 cd7 ct7), sl7⟩) (c7 : PySem.W.codeIn K cd7 "_law_whole" = true) (k7 : PySem.W.keepIn K (.ref f7) = true)
    (a8 : PySem.W.nsIn K mainGlobals "_law_list" = some (some (.ref f8))) (l8 : K.lookup f8 = some ⟨oc8, od8, .func (PySem.W.fnOf "_law_list" "_law_list" (defArgs s_law_list) (defBody s_law_list) (defScope s_law_list) .none kV8 dc8 pm8 an8 cd8 ct8), sl8⟩) (c8 : PySem.W.codeIn K cd8 "_law_list" = true) (k8 : PySem.W.keepIn K (.ref f8) = true)
    (a9 : PySem.W.nsIn K mainGlobals "_law_is_list" = some (some (.ref f9))) (l9 : K.lookup f9 = some ⟨oc9, od9, .func (PySem.W.fnOf "_law_is_list" "_law_is_list" (defArgs s_law_is_list) (defBody s_law_is_list) (defScope s_law_is_list) .none kV9 dc9 pm9 an9 cd9 ct9), sl9⟩) (c9 : PySem.W.codeIn K cd9 "_law_is_list" = true) (k9 : PySem.W.keepIn K (.ref f9) = true)
    (a10 : PySem.W.nsIn K mainGlobals "_law_plain" = some (some (.ref f10))) (l10 : K.lookup f10 = some ⟨oc10, od10, .func (PySem.W.fnOf "_law_plain" "_law_plain" (defArgs s_law_plain) (defBody s_law_plain) (defScope s_law_plain) .none kV10 dc10 pm10 an10 cd10 ct10), sl10⟩) (c10 : PySem.W.codeIn K cd10 "_law_plain" = true) (k10 : PySem.W.keepIn K (.ref f10) = true)
    (a11 : PySem.W.nsIn K mainGlobals "_law_flags" = some (some (.ref f11))) (l11 : K.lookup f11 = some ⟨oc11, od11, .func (PySem.W.fnOf "_law_flags" "_law_flags" (defArgs s_law_flags) (defBody s_law_flags) (defScope s_law_flags) .none kV11 dc11 pm11 an11 cd11 ct11), sl11⟩) (c11 : PySem.W.codeIn K cd11 "_law_flags" = true) (k11 : PySem.W.keepIn K (.ref f11) = true)
    (a12 : PySem.W.nsIn K mainGlobals "_law_made" = some (some (.ref f12))) (l12 : K.lookup f12 = some ⟨oc12, od12, .func (PySem.W.fnOf "_law_made" "_law_made" (defArgs s_law_made) (defBody s_law_made) (defScope s_law_made) .none kV12 dc12 pm12 an12 cd12 ct12), sl12⟩) (c12 : PySem.W.codeIn K cd12 "_law_made" = true) (k12 : PySem.W.keepIn K (.ref f12) = true)
    (a13 : PySem.W.nsIn K mainGlobals "_law_fields" = some (some (.ref f13))) (l13 : K.lookup f13 = some ⟨oc13, od13, .func (PySem.W.fnOf "_law_fields" "_law_fields" (defArgs s_law_fields) (defBody s_law_fields) (defScope s_law_fields) .none kV13 dc13 pm13 an13 cd13 ct13), sl13⟩) (c13 : PySem.W.codeIn K cd13 "_law_fields" = true) (k13 : PySem.W.keepIn K (.ref f13) = true)
    (a14 : PySem.W.nsIn K mainGlobals "law" = some (some (.ref f14))) (l14 : K.lookup f14 = some ⟨oc14, od14, .func (PySem.W.fnOf "law" "law" (defArgs s_law) (defBody s_law) (defScope s_law) .none kV14 dc14 pm14 an14 cd14 ct14), sl14⟩) (c14 : PySem.W.codeIn K cd14 "law" = true) (k14 : PySem.W.keepIn K (.ref f14) = true)
    (z_list : PySem.W.nsIn K mainGlobals "list" = some none) (z_len : PySem.W.nsIn K mainGlobals "len" = some none) (z_isinstance : PySem.W.nsIn K mainGlobals "isinstance" = some none) (z_bool : PySem.W.nsIn K mainGlobals "bool" = some none) (z_int : PySem.W.nsIn K mainGlobals "int" = some none) (z_range : PySem.W.nsIn K mainGlobals "range" = some none) (z_ValueError : PySem.W.nsIn K mainGlobals "ValueError" = some none) (n_NoNumber : PySem.W.nsIn K mainGlobals "NoNumber" = some (some (.ref c_NoNumber))) (n_NoFigures : PySem.W.nsIn K mainGlobals "NoFigures" = some (some (.ref c_NoFigures))) (n_NoGroups : PySem.W.nsIn K mainGlobals "NoGroups" = some (some (.ref c_NoGroups))) (n_NoBody : PySem.W.nsIn K mainGlobals "NoBody" = some (some (.ref c_NoBody))) (n_NoCore : PySem.W.nsIn K mainGlobals "NoCore" = some (some (.ref c_NoCore))) (n_NoValue : PySem.W.nsIn K mainGlobals "NoValue" = some (some (.ref c_NoValue))) (n_TooGreat : PySem.W.nsIn K mainGlobals "TooGreat" = some (some (.ref c_TooGreat))) (n_TooWide : PySem.W.nsIn K mainGlobals "TooWide" = some (some (.ref c_TooWide))) (n_NoText : PySem.W.nsIn K mainGlobals "NoText" = some (some (.ref c_NoText))) (n_NoSheet : PySem.W.nsIn K mainGlobals "NoSheet" = some (some (.ref c_NoSheet))) (n_NoRow : PySem.W.nsIn K mainGlobals "NoRow" = some (some (.ref c_NoRow))) (n_TwoValues : PySem.W.nsIn K mainGlobals "TwoValues" = some (some (.ref c_TwoValues))) (n_NoForm : PySem.W.nsIn K mainGlobals "NoForm" = some (some (.ref c_NoForm))) (n_NoLine : PySem.W.nsIn K mainGlobals "NoLine" = some (some (.ref c_NoLine))) (n_TooMany : PySem.W.nsIn K mainGlobals "TooMany" = some (some (.ref c_TooMany))) (n_TwoRows : PySem.W.nsIn K mainGlobals "TwoRows" = some (some (.ref c_TwoRows))) (n_PadError : PySem.W.nsIn K mainGlobals "PadError" = some (some (.ref c_PadError))) (ex_NoNumber : PySem.W.excIn K c_NoNumber VEB "ValueError.__new__" = true) (h1_NoNumber : PySem.W.findIn K (.ref c_NoNumber) "__getattribute__" = some (some (.builtin "BaseException.__getattribute__"))) (h2_NoNumber : PySem.W.findIn K (.ref c_NoNumber) "__getattr__" = some none) (hb_NoNumber : PySem.W.mroIn K c_NoNumber (.type "BaseException") = some true) (hd_NoNumber : PySem.W.hasDictIn K c_NoNumber = true) (ha_NoNumber : PySem.W.findIn K (.ref c_NoNumber) "__class__" = some (some (.builtin "object.__class__"))) (hn_NoNumber : PySem.W.specialIn K (.builtin "object.__class__") "__get__" = some (some (.builtin "getset_descriptor.__get__"))) (ht_NoNumber : PySem.W.takesIn K (.builtin "object.__class__") = some true) (hm_NoNumber : PySem.W.mroIn K c_NoNumber (.type "object") = some true) (ex_NoFigures : PySem.W.excIn K c_NoFigures VEB "ValueError.__new__" = true) (h1_NoFigures : PySem.W.findIn K (.ref c_NoFigures) "__getattribute__" = some (some (.builtin "BaseException.__getattribute__"))) (h2_NoFigures : PySem.W.findIn K (.ref c_NoFigures) "__getattr__" = some none) (hb_NoFigures : PySem.W.mroIn K c_NoFigures (.type "BaseException") = some true) (hd_NoFigures : PySem.W.hasDictIn K c_NoFigures = true) (ha_NoFigures : PySem.W.findIn K (.ref c_NoFigures) "__class__" = some (some (.builtin "object.__class__"))) (hn_NoFigures : PySem.W.specialIn K (.builtin "object.__class__") "__get__" = some (some (.builtin "getset_descriptor.__get__"))) (ht_NoFigures : PySem.W.takesIn K (.builtin "object.__class__") = some true) (hm_NoFigures : PySem.W.mroIn K c_NoFigures (.type "object") = some true) (ex_NoGroups : PySem.W.excIn K c_NoGroups VEB "ValueError.__new__" = true) (h1_NoGroups : PySem.W.findIn K (.ref c_NoGroups) "__getattribute__" = some (some (.builtin "BaseException.__getattribute__"))) (h2_NoGroups : PySem.W.findIn K (.ref c_NoGroups) "__getattr__" = some none) (hb_NoGroups : PySem.W.mroIn K c_NoGroups (.type "BaseException") = some true) (hd_NoGroups : PySem.W.hasDictIn K c_NoGroups = true) (ha_NoGroups : PySem.W.findIn K (.ref c_NoGroups) "__class__" = some (some (.builtin "object.__class__"))) (hn_NoGroups : PySem.W.specialIn K (.builtin "object.__class__") "__get__" = some (some (.builtin "getset_descriptor.__get__"))) (ht_NoGroups : PySem.W.takesIn K (.builtin "object.__class__") = some true) (hm_NoGroups : PySem.W.mroIn K c_NoGroups (.type "object") = some true) (ex_NoBody : PySem.W.excIn K c_NoBody VEB "ValueError.__new__" = true) (h1_NoBody : PySem.W.findIn K (.ref c_NoBody) "__getattribute__" = some (some (.builtin "BaseException.__getattribute__"))) (h2_NoBody : PySem.W.findIn K (.ref c_NoBody) "__getattr__" = some none) (hb_NoBody : PySem.W.mroIn K c_NoBody (.type "BaseException") = some true) (hd_NoBody : PySem.W.hasDictIn K c_NoBody = true) (ha_NoBody : PySem.W.findIn K (.ref c_NoBody) "__class__" = some (some (.builtin "object.__class__"))) (hn_NoBody : PySem.W.specialIn K (.builtin "object.__class__") "__get__" = some (some (.builtin "getset_descriptor.__get__"))) (ht_NoBody : PySem.W.takesIn K (.builtin "object.__class__") = some true) (hm_NoBody : PySem.W.mroIn K c_NoBody (.type "object") = some true) (ex_NoCore : PySem.W.excIn K c_NoCore VEB "ValueError.__new__" = true) (h1_NoCore : PySem.W.findIn K (.ref c_NoCore) "__getattribute__" = some (some (.builtin "BaseException.__getattribute__"))) (h2_NoCore : PySem.W.findIn K (.ref c_NoCore) "__getattr__" = some none) (hb_NoCore : PySem.W.mroIn K c_NoCore (.type "BaseException") = some true) (hd_NoCore : PySem.W.hasDictIn K c_NoCore = true) (ha_NoCore : PySem.W.findIn K (.ref c_NoCore) "__class__" = some (some (.builtin "object.__class__"))) (hn_NoCore : PySem.W.specialIn K (.builtin "object.__class__") "__get__" = some (some (.builtin "getset_descriptor.__get__"))) (ht_NoCore : PySem.W.takesIn K (.builtin "object.__class__") = some true) (hm_NoCore : PySem.W.mroIn K c_NoCore (.type "object") = some true) (ex_NoValue : PySem.W.excIn K c_NoValue VEB "ValueError.__new__" = true) (h1_NoValue : PySem.W.findIn K (.ref c_NoValue) "__getattribute__" = some (some (.builtin "BaseException.__getattribute__"))) (h2_NoValue : PySem.W.findIn K (.ref c_NoValue) "__getattr__" = some none) (hb_NoValue : PySem.W.mroIn K c_NoValue (.type "BaseException") = some true) (hd_NoValue : PySem.W.hasDictIn K c_NoValue = true) (ha_NoValue : PySem.W.findIn K (.ref c_NoValue) "__class__" = some (some (.builtin "object.__class__"))) (hn_NoValue : PySem.W.specialIn K (.builtin "object.__class__") "__get__" = some (some (.builtin "getset_descriptor.__get__"))) (ht_NoValue : PySem.W.takesIn K (.builtin "object.__class__") = some true) (hm_NoValue : PySem.W.mroIn K c_NoValue (.type "object") = some true) (ex_TooGreat : PySem.W.excIn K c_TooGreat VEB "ValueError.__new__" = true) (h1_TooGreat : PySem.W.findIn K (.ref c_TooGreat) "__getattribute__" = some (some (.builtin "BaseException.__getattribute__"))) (h2_TooGreat : PySem.W.findIn K (.ref c_TooGreat) "__getattr__" = some none) (hb_TooGreat : PySem.W.mroIn K c_TooGreat (.type "BaseException") = some true) (hd_TooGreat : PySem.W.hasDictIn K c_TooGreat = true) (ha_TooGreat : PySem.W.findIn K (.ref c_TooGreat) "__class__" = some (some (.builtin "object.__class__"))) (hn_TooGreat : PySem.W.specialIn K (.builtin "object.__class__") "__get__" = some (some (.builtin "getset_descriptor.__get__"))) (ht_TooGreat : PySem.W.takesIn K (.builtin "object.__class__") = some true) (hm_TooGreat : PySem.W.mroIn K c_TooGreat (.type "object") = some true) (ex_TooWide : PySem.W.excIn K c_TooWide VEB "ValueError.__new__" = true) (h1_TooWide : PySem.W.findIn K (.ref c_TooWide) "__getattribute__" = some (some (.builtin "BaseException.__getattribute__"))) (h2_TooWide : PySem.W.findIn K (.ref c_TooWide) "__getattr__" = some none) (hb_TooWide : PySem.W.mroIn K c_TooWide (.type "BaseException") = some true) (hd_TooWide : PySem.W.hasDictIn K c_TooWide = true) (ha_TooWide : PySem.W.findIn K (.ref c_TooWide) "__class__" = some (some (.builtin "object.__class__"))) (hn_TooWide : PySem.W.specialIn K (.builtin "object.__class__") "__get__" = some (some (.builtin "getset_descriptor.__get__"))) (ht_TooWide : PySem.W.takesIn K (.builtin "object.__class__") = some true) (hm_TooWide : PySem.W.mroIn K c_TooWide (.type "object") = some true) (ex_NoText : PySem.W.excIn K c_NoText VEB "ValueError.__new__" = true) (h1_NoText : PySem.W.findIn K (.ref c_NoText) "__getattribute__" = some (some (.builtin "BaseException.__getattribute__"))) (h2_NoText : PySem.W.findIn K (.ref c_NoText) "__getattr__" = some none) (hb_NoText : PySem.W.mroIn K c_NoText (.type "BaseException") = some true) (hd_NoText : PySem.W.hasDictIn K c_NoText = true) (ha_NoText : PySem.W.findIn K (.ref c_NoText) "__class__" = some (some (.builtin "object.__class__"))) (hn_NoText : PySem.W.specialIn K (.builtin "object.__class__") "__get__" = some (some (.builtin "getset_descriptor.__get__"))) (ht_NoText : PySem.W.takesIn K (.builtin "object.__class__") = some true) (hm_NoText : PySem.W.mroIn K c_NoText (.type "object") = some true) (ex_NoSheet : PySem.W.excIn K c_NoSheet VEB "ValueError.__new__" = true) (h1_NoSheet : PySem.W.findIn K (.ref c_NoSheet) "__getattribute__" = some (some (.builtin "BaseException.__getattribute__"))) (h2_NoSheet : PySem.W.findIn K (.ref c_NoSheet) "__getattr__" = some none) (hb_NoSheet : PySem.W.mroIn K c_NoSheet (.type "BaseException") = some true) (hd_NoSheet : PySem.W.hasDictIn K c_NoSheet = true) (ha_NoSheet : PySem.W.findIn K (.ref c_NoSheet) "__class__" = some (some (.builtin "object.__class__"))) (hn_NoSheet : PySem.W.specialIn K (.builtin "object.__class__") "__get__" = some (some (.builtin "getset_descriptor.__get__"))) (ht_NoSheet : PySem.W.takesIn K (.builtin "object.__class__") = some true) (hm_NoSheet : PySem.W.mroIn K c_NoSheet (.type "object") = some true) (ex_NoRow : PySem.W.excIn K c_NoRow VEB "ValueError.__new__" = true) (h1_NoRow : PySem.W.findIn K (.ref c_NoRow) "__getattribute__" = some (some (.builtin "BaseException.__getattribute__"))) (h2_NoRow : PySem.W.findIn K (.ref c_NoRow) "__getattr__" = some none) (hb_NoRow : PySem.W.mroIn K c_NoRow (.type "BaseException") = some true) (hd_NoRow : PySem.W.hasDictIn K c_NoRow = true) (ha_NoRow : PySem.W.findIn K (.ref c_NoRow) "__class__" = some (some (.builtin "object.__class__"))) (hn_NoRow : PySem.W.specialIn K (.builtin "object.__class__") "__get__" = some (some (.builtin "getset_descriptor.__get__"))) (ht_NoRow : PySem.W.takesIn K (.builtin "object.__class__") = some true) (hm_NoRow : PySem.W.mroIn K c_NoRow (.type "object") = some true) (ex_PadError : PySem.W.excIn K c_PadError VEB "ValueError.__new__" = true) (h1_PadError : PySem.W.findIn K (.ref c_PadError) "__getattribute__" = some (some (.builtin "BaseException.__getattribute__"))) (h2_PadError : PySem.W.findIn K (.ref c_PadError) "__getattr__" = some none) (hb_PadError : PySem.W.mroIn K c_PadError (.type "BaseException") = some true) (hd_PadError : PySem.W.hasDictIn K c_PadError = true) (ha_PadError : PySem.W.findIn K (.ref c_PadError) "__class__" = some (some (.builtin "object.__class__"))) (hn_PadError : PySem.W.specialIn K (.builtin "object.__class__") "__get__" = some (some (.builtin "getset_descriptor.__get__"))) (ht_PadError : PySem.W.takesIn K (.builtin "object.__class__") = some true) (hm_PadError : PySem.W.mroIn K c_PadError (.type "object") = some true) (kp_NoNumber : PySem.W.keepIn K (.ref c_NoNumber) = true) (kp_NoFigures : PySem.W.keepIn K (.ref c_NoFigures) = true) (kp_NoGroups : PySem.W.keepIn K (.ref c_NoGroups) = true) (kp_NoBody : PySem.W.keepIn K (.ref c_NoBody) = true) (kp_NoCore : PySem.W.keepIn K (.ref c_NoCore) = true) (kp_NoValue : PySem.W.keepIn K (.ref c_NoValue) = true) (kp_TooGreat : PySem.W.keepIn K (.ref c_TooGreat) = true) (kp_TooWide : PySem.W.keepIn K (.ref c_TooWide) = true) (kp_NoText : PySem.W.keepIn K (.ref c_NoText) = true) (kp_NoSheet : PySem.W.keepIn K (.ref c_NoSheet) = true) (kp_NoRow : PySem.W.keepIn K (.ref c_NoRow) = true) (kp_PadError : PySem.W.keepIn K (.ref c_PadError) = true) (h1_TwoValues : PySem.W.findIn K (.ref c_TwoValues) "__getattribute__" = some (some (.builtin "BaseException.__getattribute__"))) (h2_TwoValues : PySem.W.findIn K (.ref c_TwoValues) "__getattr__" = some none) (hb_TwoValues : PySem.W.mroIn K c_TwoValues (.type "BaseException") = some true) (hd_TwoValues : PySem.W.hasDictIn K c_TwoValues = true) (ha_TwoValues : PySem.W.findIn K (.ref c_TwoValues) "__class__" = some (some (.builtin "object.__class__"))) (hn_TwoValues : PySem.W.specialIn K (.builtin "object.__class__") "__get__" = some (some (.builtin "getset_descriptor.__get__"))) (ht_TwoValues : PySem.W.takesIn K (.builtin "object.__class__") = some true) (hm_TwoValues : PySem.W.mroIn K c_TwoValues (.type "object") = some true) (xi_TwoValues : excInI K c_TwoValues f0 = true) (fn_TwoValues : PySem.W.isFn K (.ref f0) = true) (kp_TwoValues : PySem.W.keepIn K (.ref c_TwoValues) = true) (sa_TwoValues : PySem.W.findIn K (.ref c_TwoValues) "__setattr__" = some (some (.builtin "object.__setattr__"))) (na_TwoValues_told : PySem.W.findIn K (.ref c_TwoValues) "told" = some none) (h1_NoForm : PySem.W.findIn K (.ref c_NoForm) "__getattribute__" = some (some (.builtin "BaseException.__getattribute__"))) (h2_NoForm : PySem.W.findIn K (.ref c_NoForm) "__getattr__" = some none) (hb_NoForm : PySem.W.mroIn K c_NoForm (.type "BaseException") = some true) (hd_NoForm : PySem.W.hasDictIn K c_NoForm = true) (ha_NoForm : PySem.W.findIn K (.ref c_NoForm) "__class__" = some (some (.builtin "object.__class__"))) (hn_NoForm : PySem.W.specialIn K (.builtin "object.__class__") "__get__" = some (some (.builtin "getset_descriptor.__get__"))) (ht_NoForm : PySem.W.takesIn K (.builtin "object.__class__") = some true) (hm_NoForm : PySem.W.mroIn K c_NoForm (.type "object") = some true) (xi_NoForm : excInI K c_NoForm f1 = true) (fn_NoForm : PySem.W.isFn K (.ref f1) = true) (kp_NoForm : PySem.W.keepIn K (.ref c_NoForm) = true) (sa_NoForm : PySem.W.findIn K (.ref c_NoForm) "__setattr__" = some (some (.builtin "object.__setattr__"))) (na_NoForm_at : PySem.W.findIn K (.ref c_NoForm) "at" = some none) (h1_NoLine : PySem.W.findIn K (.ref c_NoLine) "__getattribute__" = some (some (.builtin "BaseException.__getattribute__"))) (h2_NoLine : PySem.W.findIn K (.ref c_NoLine) "__getattr__" = some none) (hb_NoLine : PySem.W.mroIn K c_NoLine (.type "BaseException") = some true) (hd_NoLine : PySem.W.hasDictIn K c_NoLine = true) (ha_NoLine : PySem.W.findIn K (.ref c_NoLine) "__class__" = some (some (.builtin "object.__class__"))) (hn_NoLine : PySem.W.specialIn K (.builtin "object.__class__") "__get__" = some (some (.builtin "getset_descriptor.__get__"))) (ht_NoLine : PySem.W.takesIn K (.builtin "object.__class__") = some true) (hm_NoLine : PySem.W.mroIn K c_NoLine (.type "object") = some true) (xi_NoLine : excInI K c_NoLine f2 = true) (fn_NoLine : PySem.W.isFn K (.ref f2) = true) (kp_NoLine : PySem.W.keepIn K (.ref c_NoLine) = true) (sa_NoLine : PySem.W.findIn K (.ref c_NoLine) "__setattr__" = some (some (.builtin "object.__setattr__"))) (na_NoLine_at : PySem.W.findIn K (.ref c_NoLine) "at" = some none) (h1_TooMany : PySem.W.findIn K (.ref c_TooMany) "__getattribute__" = some (some (.builtin "BaseException.__getattribute__"))) (h2_TooMany : PySem.W.findIn K (.ref c_TooMany) "__getattr__" = some none) (hb_TooMany : PySem.W.mroIn K c_TooMany (.type "BaseException") = some true) (hd_TooMany : PySem.W.hasDictIn K c_TooMany = true) (ha_TooMany : PySem.W.findIn K (.ref c_TooMany) "__class__" = some (some (.builtin "object.__class__"))) (hn_TooMany : PySem.W.specialIn K (.builtin "object.__class__") "__get__" = some (some (.builtin "getset_descriptor.__get__"))) (ht_TooMany : PySem.W.takesIn K (.builtin "object.__class__") = some true) (hm_TooMany : PySem.W.mroIn K c_TooMany (.type "object") = some true) (xi_TooMany : excInI K c_TooMany f3 = true) (fn_TooMany : PySem.W.isFn K (.ref f3) = true) (kp_TooMany : PySem.W.keepIn K (.ref c_TooMany) = true) (sa_TooMany : PySem.W.findIn K (.ref c_TooMany) "__setattr__" = some (some (.builtin "object.__setattr__"))) (na_TooMany_number : PySem.W.findIn K (.ref c_TooMany) "number" = some none) (h1_TwoRows : PySem.W.findIn K (.ref c_TwoRows) "__getattribute__" = some (some (.builtin "BaseException.__getattribute__"))) (h2_TwoRows : PySem.W.findIn K (.ref c_TwoRows) "__getattr__" = some none) (hb_TwoRows : PySem.W.mroIn K c_TwoRows (.type "BaseException") = some true) (hd_TwoRows : PySem.W.hasDictIn K c_TwoRows = true) (ha_TwoRows : PySem.W.findIn K (.ref c_TwoRows) "__class__" = some (some (.builtin "object.__class__"))) (hn_TwoRows : PySem.W.specialIn K (.builtin "object.__class__") "__get__" = some (some (.builtin "getset_descriptor.__get__"))) (ht_TwoRows : PySem.W.takesIn K (.builtin "object.__class__") = some true) (hm_TwoRows : PySem.W.mroIn K c_TwoRows (.type "object") = some true) (xi_TwoRows : excInI K c_TwoRows f4 = true) (fn_TwoRows : PySem.W.isFn K (.ref f4) = true) (kp_TwoRows : PySem.W.keepIn K (.ref c_TwoRows) = true) (sa_TwoRows : PySem.W.findIn K (.ref c_TwoRows) "__setattr__" = some (some (.builtin "object.__setattr__"))) (na_TwoRows_at : PySem.W.findIn K (.ref c_TwoRows) "at" = some none) (na_TwoRows_one : PySem.W.findIn K (.ref c_TwoRows) "one" = some none) (na_TwoRows_other : PySem.W.findIn K (.ref c_TwoRows) "other" = some none) (pi1 : PySem.W.specialIn K (.ref c_PadError) "__getattribute__" = some (some (.builtin "type.__getattribute__"))) (pi2 : PySem.W.readsIn K c_PadError (.type "type") = true) (pi3 : PySem.W.findCls K (.ref c_PadError) (.type "type") "__init__" = some (.val (.builtin "ValueError.__init__"))) (kt : kitT K [c_NoNumber, c_NoFigures, c_NoGroups, c_NoBody, c_NoCore, c_NoValue, c_TooGreat, c_TooWide, c_NoText, c_NoSheet, c_NoRow, c_TwoValues, c_NoForm, c_NoLine, c_TooMany, c_TwoRows] = true) (kpp : kitP K [c_NoNumber, c_NoFigures, c_NoGroups, c_NoBody, c_NoCore, c_NoValue, c_TooGreat, c_TooWide, c_NoText, c_NoSheet, c_NoRow, c_TwoValues, c_NoForm, c_NoLine, c_TooMany, c_TwoRows] c_PadError = true) :
    ∃ fd : FuncData, (∀ (s : Shared) (v : Value), BindsTo s fd ⟨[v], []⟩ [("_law_script", v)]) ∧ ∀ base : Heap, K.In base → base.Ns mainGlobals mg → FnOk l.prog w K mg base CX0 4 fa fd ["_law_script"] (sp_law K) := by
  have e := hfa.symm.trans (PySem.W.mg_of X G a14)
  cases e
  have B : Blt mg := ⟨PySem.W.mg_none_of X G z_list, PySem.W.mg_none_of X G z_len, PySem.W.mg_none_of X G z_isinstance, PySem.W.mg_none_of X G z_bool, PySem.W.mg_none_of X G z_int, PySem.W.mg_none_of X G z_range, PySem.W.mg_none_of X G z_ValueError⟩
  refine ⟨PySem.W.fnOf "law" "law" (defArgs s_law) (defBody s_law) (defScope s_law) .none kV14 dc14 pm14 an14 cd14 ct14, fun s v => .of_eq rfl, fun base _ _ => ?_⟩
  have m_NoNumber := PySem.W.mg_of X G n_NoNumber
  have m_NoFigures := PySem.W.mg_of X G n_NoFigures
  have m_NoGroups := PySem.W.mg_of X G n_NoGroups
  have m_NoBody := PySem.W.mg_of X G n_NoBody
  have m_NoCore := PySem.W.mg_of X G n_NoCore
  have m_NoValue := PySem.W.mg_of X G n_NoValue
  have m_TooGreat := PySem.W.mg_of X G n_TooGreat
  have m_TooWide := PySem.W.mg_of X G n_TooWide
  have m_NoText := PySem.W.mg_of X G n_NoText
  have m_NoSheet := PySem.W.mg_of X G n_NoSheet
  have m_NoRow := PySem.W.mg_of X G n_NoRow
  have m_TwoValues := PySem.W.mg_of X G n_TwoValues
  have m_NoForm := PySem.W.mg_of X G n_NoForm
  have m_NoLine := PySem.W.mg_of X G n_NoLine
  have m_TooMany := PySem.W.mg_of X G n_TooMany
  have m_TwoRows := PySem.W.mg_of X G n_TwoRows
  have m_PadError := PySem.W.mg_of X G n_PadError
  have e_NoNumber : Exc K c_NoNumber := ⟨ex_NoNumber, h1_NoNumber, h2_NoNumber, hb_NoNumber, hd_NoNumber, ha_NoNumber, hn_NoNumber, ht_NoNumber, hm_NoNumber⟩
  have e_NoFigures : Exc K c_NoFigures := ⟨ex_NoFigures, h1_NoFigures, h2_NoFigures, hb_NoFigures, hd_NoFigures, ha_NoFigures, hn_NoFigures, ht_NoFigures, hm_NoFigures⟩
  have e_NoGroups : Exc K c_NoGroups := ⟨ex_NoGroups, h1_NoGroups, h2_NoGroups, hb_NoGroups, hd_NoGroups, ha_NoGroups, hn_NoGroups, ht_NoGroups, hm_NoGroups⟩
  have e_NoBody : Exc K c_NoBody := ⟨ex_NoBody, h1_NoBody, h2_NoBody, hb_NoBody, hd_NoBody, ha_NoBody, hn_NoBody, ht_NoBody, hm_NoBody⟩
  have e_NoCore : Exc K c_NoCore := ⟨ex_NoCore, h1_NoCore, h2_NoCore, hb_NoCore, hd_NoCore, ha_NoCore, hn_NoCore, ht_NoCore, hm_NoCore⟩
  have e_NoValue : Exc K c_NoValue := ⟨ex_NoValue, h1_NoValue, h2_NoValue, hb_NoValue, hd_NoValue, ha_NoValue, hn_NoValue, ht_NoValue, hm_NoValue⟩
  have e_TooGreat : Exc K c_TooGreat := ⟨ex_TooGreat, h1_TooGreat, h2_TooGreat, hb_TooGreat, hd_TooGreat, ha_TooGreat, hn_TooGreat, ht_TooGreat, hm_TooGreat⟩
  have e_TooWide : Exc K c_TooWide := ⟨ex_TooWide, h1_TooWide, h2_TooWide, hb_TooWide, hd_TooWide, ha_TooWide, hn_TooWide, ht_TooWide, hm_TooWide⟩
  have e_NoText : Exc K c_NoText := ⟨ex_NoText, h1_NoText, h2_NoText, hb_NoText, hd_NoText, ha_NoText, hn_NoText, ht_NoText, hm_NoText⟩
  have e_NoSheet : Exc K c_NoSheet := ⟨ex_NoSheet, h1_NoSheet, h2_NoSheet, hb_NoSheet, hd_NoSheet, ha_NoSheet, hn_NoSheet, ht_NoSheet, hm_NoSheet⟩
  have e_NoRow : Exc K c_NoRow := ⟨ex_NoRow, h1_NoRow, h2_NoRow, hb_NoRow, hd_NoRow, ha_NoRow, hn_NoRow, ht_NoRow, hm_NoRow⟩
  have e_PadError : Exc K c_PadError := ⟨ex_PadError, h1_PadError, h2_PadError, hb_PadError, hd_PadError, ha_PadError, hn_PadError, ht_PadError, hm_PadError⟩
  have b_TwoValues : ExcB K c_TwoValues := ⟨h1_TwoValues, h2_TwoValues, hb_TwoValues, hd_TwoValues, ha_TwoValues, hn_TwoValues, ht_TwoValues, hm_TwoValues⟩
  have b_NoForm : ExcB K c_NoForm := ⟨h1_NoForm, h2_NoForm, hb_NoForm, hd_NoForm, ha_NoForm, hn_NoForm, ht_NoForm, hm_NoForm⟩
  have b_NoLine : ExcB K c_NoLine := ⟨h1_NoLine, h2_NoLine, hb_NoLine, hd_NoLine, ha_NoLine, hn_NoLine, ht_NoLine, hm_NoLine⟩
  have b_TooMany : ExcB K c_TooMany := ⟨h1_TooMany, h2_TooMany, hb_TooMany, hd_TooMany, ha_TooMany, hn_TooMany, ht_TooMany, hm_TooMany⟩
  have b_TwoRows : ExcB K c_TwoRows := ⟨h1_TwoRows, h2_TwoRows, hb_TwoRows, hd_TwoRows, ha_TwoRows, hn_TwoRows, ht_TwoRows, hm_TwoRows⟩
  have Z : Zs K mg c_NoNumber c_NoFigures c_NoGroups c_NoBody c_NoCore c_NoValue c_TooGreat c_TooWide c_NoText c_NoSheet c_NoRow c_TwoValues c_NoForm c_NoLine c_TooMany c_TwoRows c_PadError := { m_NoNumber := m_NoNumber, m_NoFigures := m_NoFigures, m_NoGroups := m_NoGroups, m_NoBody := m_NoBody, m_NoCore := m_NoCore, m_NoValue := m_NoValue, m_TooGreat := m_TooGreat, m_TooWide := m_TooWide, m_NoText := m_NoText, m_NoSheet := m_NoSheet, m_NoRow := m_NoRow, m_TwoValues := m_TwoValues, m_NoForm := m_NoForm, m_NoLine := m_NoLine, m_TooMany := m_TooMany, m_TwoRows := m_TwoRows, m_PadError := m_PadError, e_NoNumber := e_NoNumber, k_NoNumber := kp_NoNumber, e_NoFigures := e_NoFigures, k_NoFigures := kp_NoFigures, e_NoGroups := e_NoGroups, k_NoGroups := kp_NoGroups, e_NoBody := e_NoBody, k_NoBody := kp_NoBody, e_NoCore := e_NoCore, k_NoCore := kp_NoCore, e_NoValue := e_NoValue, k_NoValue := kp_NoValue, e_TooGreat := e_TooGreat, k_TooGreat := kp_TooGreat, e_TooWide := e_TooWide, k_TooWide := kp_TooWide, e_NoText := e_NoText, k_NoText := kp_NoText, e_NoSheet := e_NoSheet, k_NoSheet := kp_NoSheet, e_NoRow := e_NoRow, k_NoRow := kp_NoRow, e_PadError := e_PadError, k_PadError := kp_PadError, b_TwoValues := b_TwoValues, b_NoForm := b_NoForm, b_NoLine := b_NoLine, b_TooMany := b_TooMany, b_TwoRows := b_TwoRows, x_TwoValues_told := ⟨_, ⟨xi_TwoValues, b_TwoValues, sa_TwoValues, na_TwoValues_told⟩⟩, x_NoForm_at := ⟨_, ⟨xi_NoForm, b_NoForm, sa_NoForm, na_NoForm_at⟩⟩, x_NoLine_at := ⟨_, ⟨xi_NoLine, b_NoLine, sa_NoLine, na_NoLine_at⟩⟩, x_TooMany_number := ⟨_, ⟨xi_TooMany, b_TooMany, sa_TooMany, na_TooMany_number⟩⟩, x_TwoRows_at := ⟨_, ⟨xi_TwoRows, b_TwoRows, sa_TwoRows, na_TwoRows_at⟩⟩, x_TwoRows_one := ⟨_, ⟨xi_TwoRows, b_TwoRows, sa_TwoRows, na_TwoRows_one⟩⟩, x_TwoRows_other := ⟨_, ⟨xi_TwoRows, b_TwoRows, sa_TwoRows, na_TwoRows_other⟩⟩, pi := ⟨pi1, pi2, pi3⟩, kt := kt, kp := kpp }
  have F0 := funD_mk (x := "__init__") (qual := "TwoValues.__init__") (st := s_TwoValues___init__) l0 c0 k0
  have G_TwoValues___init__ := ok_TwoValues___init__ (P := l.prog) (w := w) (base := base) (c_NoNumber := c_NoNumber) (c_NoFigures := c_NoFigures) (c_NoGroups := c_NoGroups) (c_NoBody := c_NoBody) (c_NoCore := c_NoCore) (c_NoValue := c_NoValue) (c_TooGreat := c_TooGreat) (c_TooWide := c_TooWide) (c_NoText := c_NoText) (c_NoSheet := c_NoSheet) (c_NoRow := c_NoRow) (c_TwoValues := c_TwoValues) (c_NoForm := c_NoForm) (c_NoLine := c_NoLine) (c_TooMany := c_TooMany) (c_TwoRows := c_TwoRows) (c_PadError := c_PadError) F0 B Z
  have b_TwoValues___init__ : Binds K (PySem.W.fnOf "__init__" "TwoValues.__init__" (defArgs s_TwoValues___init__) (defBody s_TwoValues___init__) (defScope s_TwoValues___init__) .none kV0 dc0 pm0 an0 cd0 ct0) ["self", "told"] [] := .all fun us hl => match us, hl with | [_, _], _ => rfl
  have F1 := funD_mk (x := "__init__") (qual := "NoForm.__init__") (st := s_NoForm___init__) l1 c1 k1
  have G_NoForm___init__ := ok_NoForm___init__ (P := l.prog) (w := w) (base := base) (c_NoNumber := c_NoNumber) (c_NoFigures := c_NoFigures) (c_NoGroups := c_NoGroups) (c_NoBody := c_NoBody) (c_NoCore := c_NoCore) (c_NoValue := c_NoValue) (c_TooGreat := c_TooGreat) (c_TooWide := c_TooWide) (c_NoText := c_NoText) (c_NoSheet := c_NoSheet) (c_NoRow := c_NoRow) (c_TwoValues := c_TwoValues) (c_NoForm := c_NoForm) (c_NoLine := c_NoLine) (c_TooMany := c_TooMany) (c_TwoRows := c_TwoRows) (c_PadError := c_PadError) F1 B Z
  have b_NoForm___init__ : Binds K (PySem.W.fnOf "__init__" "NoForm.__init__" (defArgs s_NoForm___init__) (defBody s_NoForm___init__) (defScope s_NoForm___init__) .none kV1 dc1 pm1 an1 cd1 ct1) ["self", "at"] [] := .all fun us hl => match us, hl with | [_, _], _ => rfl
  have F2 := funD_mk (x := "__init__") (qual := "NoLine.__init__") (st := s_NoLine___init__) l2 c2 k2
  have G_NoLine___init__ := ok_NoLine___init__ (P := l.prog) (w := w) (base := base) (c_NoNumber := c_NoNumber) (c_NoFigures := c_NoFigures) (c_NoGroups := c_NoGroups) (c_NoBody := c_NoBody) (c_NoCore := c_NoCore) (c_NoValue := c_NoValue) (c_TooGreat := c_TooGreat) (c_TooWide := c_TooWide) (c_NoText := c_NoText) (c_NoSheet := c_NoSheet) (c_NoRow := c_NoRow) (c_TwoValues := c_TwoValues) (c_NoForm := c_NoForm) (c_NoLine := c_NoLine) (c_TooMany := c_TooMany) (c_TwoRows := c_TwoRows) (c_PadError := c_PadError) F2 B Z
  have b_NoLine___init__ : Binds K (PySem.W.fnOf "__init__" "NoLine.__init__" (defArgs s_NoLine___init__) (defBody s_NoLine___init__) (defScope s_NoLine___init__) .none kV2 dc2 pm2 an2 cd2 ct2) ["self", "at"] [] := .all fun us hl => match us, hl with | [_, _], _ => rfl
  have F3 := funD_mk (x := "__init__") (qual := "TooMany.__init__") (st := s_TooMany___init__) l3 c3 k3
  have G_TooMany___init__ := ok_TooMany___init__ (P := l.prog) (w := w) (base := base) (c_NoNumber := c_NoNumber) (c_NoFigures := c_NoFigures) (c_NoGroups := c_NoGroups) (c_NoBody := c_NoBody) (c_NoCore := c_NoCore) (c_NoValue := c_NoValue) (c_TooGreat := c_TooGreat) (c_TooWide := c_TooWide) (c_NoText := c_NoText) (c_NoSheet := c_NoSheet) (c_NoRow := c_NoRow) (c_TwoValues := c_TwoValues) (c_NoForm := c_NoForm) (c_NoLine := c_NoLine) (c_TooMany := c_TooMany) (c_TwoRows := c_TwoRows) (c_PadError := c_PadError) F3 B Z
  have b_TooMany___init__ : Binds K (PySem.W.fnOf "__init__" "TooMany.__init__" (defArgs s_TooMany___init__) (defBody s_TooMany___init__) (defScope s_TooMany___init__) .none kV3 dc3 pm3 an3 cd3 ct3) ["self", "number"] [] := .all fun us hl => match us, hl with | [_, _], _ => rfl
  have F4 := funD_mk (x := "__init__") (qual := "TwoRows.__init__") (st := s_TwoRows___init__) l4 c4 k4
  have G_TwoRows___init__ := ok_TwoRows___init__ (P := l.prog) (w := w) (base := base) (c_NoNumber := c_NoNumber) (c_NoFigures := c_NoFigures) (c_NoGroups := c_NoGroups) (c_NoBody := c_NoBody) (c_NoCore := c_NoCore) (c_NoValue := c_NoValue) (c_TooGreat := c_TooGreat) (c_TooWide := c_TooWide) (c_NoText := c_NoText) (c_NoSheet := c_NoSheet) (c_NoRow := c_NoRow) (c_TwoValues := c_TwoValues) (c_NoForm := c_NoForm) (c_NoLine := c_NoLine) (c_TooMany := c_TooMany) (c_TwoRows := c_TwoRows) (c_PadError := c_PadError) F4 B Z
  have b_TwoRows___init__ : Binds K (PySem.W.fnOf "__init__" "TwoRows.__init__" (defArgs s_TwoRows___init__) (defBody s_TwoRows___init__) (defScope s_TwoRows___init__) .none kV4 dc4 pm4 an4 cd4 ct4) ["self", "at", "one", "other"] [] := .all fun us hl => match us, hl with | [_, _, _, _], _ => rfl
  have F5 := fun_mk (st := s_law_cell) l5 c5 k5
  have H_law_cell : Has l.prog w K mg base "_law_cell" 1 ["_law_script", "_law_k"] (sp_law_cell K) := ⟨_, _, ok_law_cell  F5 B  , PySem.W.mg_of X G a5, k5, F5.binds fun _ _ _ _ _ _ us hl => match us, hl with | [_, _], _ => rfl⟩
  have F6 := fun_mk (st := s_law_draw) l6 c6 k6
  have H_law_draw : Has l.prog w K mg base "_law_draw" 1 ["_law_cell_here", "_law_salt", "_law_many"] (sp_law_draw K) := ⟨_, _, ok_law_draw  F6 B  , PySem.W.mg_of X G a6, k6, F6.binds fun _ _ _ _ _ _ us hl => match us, hl with | [_, _, _], _ => rfl⟩
  have F7 := fun_mk (st := s_law_whole) l7 c7 k7
  have H_law_whole : Has l.prog w K mg base "_law_whole" 1 ["_law_found"] (sp_law_whole K) := ⟨_, _, ok_law_whole  F7 B  , PySem.W.mg_of X G a7, k7, F7.binds fun _ _ _ _ _ _ us hl => match us, hl with | [_], _ => rfl⟩
  have F8 := fun_mk (st := s_law_list) l8 c8 k8
  have H_law_list : Has l.prog w K mg base "_law_list" 2 ["_law_script", "_law_k"] (sp_law_list K) := ⟨_, _, ok_law_list  F8 B H_law_cell H_law_draw , PySem.W.mg_of X G a8, k8, F8.binds fun _ _ _ _ _ _ us hl => match us, hl with | [_, _], _ => rfl⟩
  have F9 := fun_mk (st := s_law_is_list) l9 c9 k9
  have H_law_is_list : Has l.prog w K mg base "_law_is_list" 1 ["_law_found", "_law_due"] (sp_law_is_list K) := ⟨_, _, ok_law_is_list  F9 B  , PySem.W.mg_of X G a9, k9, F9.binds fun _ _ _ _ _ _ us hl => match us, hl with | [_, _], _ => rfl⟩
  have F10 := fun_mk (st := s_law_plain) l10 c10 k10
  have H_law_plain : Has l.prog w K mg base "_law_plain" 1 ["_law_bare"] (sp_law_plain K (kinds c_NoNumber c_NoFigures c_NoGroups c_NoBody c_NoCore c_NoValue c_TooGreat c_TooWide c_NoText c_NoSheet c_NoRow c_TwoValues c_NoForm c_NoLine c_TooMany c_TwoRows)) := ⟨_, _, ok_law_plain (c_NoNumber := c_NoNumber) (c_NoFigures := c_NoFigures) (c_NoGroups := c_NoGroups) (c_NoBody := c_NoBody) (c_NoCore := c_NoCore) (c_NoValue := c_NoValue) (c_TooGreat := c_TooGreat) (c_TooWide := c_TooWide) (c_NoText := c_NoText) (c_NoSheet := c_NoSheet) (c_NoRow := c_NoRow) (c_TwoValues := c_TwoValues) (c_NoForm := c_NoForm) (c_NoLine := c_NoLine) (c_TooMany := c_TooMany) (c_TwoRows := c_TwoRows) (c_PadError := c_PadError) F10 B Z  , PySem.W.mg_of X G a10, k10, F10.binds fun _ _ _ _ _ _ us hl => match us, hl with | [_], _ => rfl⟩
  have F11 := fun_mk (st := s_law_flags) l11 c11 k11
  have H_law_flags : Has l.prog w K mg base "_law_flags" 1 ["_law_e"] (sp_law_flags K (kinds c_NoNumber c_NoFigures c_NoGroups c_NoBody c_NoCore c_NoValue c_TooGreat c_TooWide c_NoText c_NoSheet c_NoRow c_TwoValues c_NoForm c_NoLine c_TooMany c_TwoRows)) := ⟨_, _, ok_law_flags (c_NoNumber := c_NoNumber) (c_NoFigures := c_NoFigures) (c_NoGroups := c_NoGroups) (c_NoBody := c_NoBody) (c_NoCore := c_NoCore) (c_NoValue := c_NoValue) (c_TooGreat := c_TooGreat) (c_TooWide := c_TooWide) (c_NoText := c_NoText) (c_NoSheet := c_NoSheet) (c_NoRow := c_NoRow) (c_TwoValues := c_TwoValues) (c_NoForm := c_NoForm) (c_NoLine := c_NoLine) (c_TooMany := c_TooMany) (c_TwoRows := c_TwoRows) (c_PadError := c_PadError) F11 B Z  , PySem.W.mg_of X G a11, k11, F11.binds fun _ _ _ _ _ _ us hl => match us, hl with | [_], _ => rfl⟩
  have F12 := fun_mk (st := s_law_made) l12 c12 k12
  have H_law_made : Has l.prog w K mg base "_law_made" 3 ["_law_script", "_law_k"] (sp_law_made K (kinds c_NoNumber c_NoFigures c_NoGroups c_NoBody c_NoCore c_NoValue c_TooGreat c_TooWide c_NoText c_NoSheet c_NoRow c_TwoValues c_NoForm c_NoLine c_TooMany c_TwoRows)) := ⟨_, _, ok_law_made (c_NoNumber := c_NoNumber) (c_NoFigures := c_NoFigures) (c_NoGroups := c_NoGroups) (c_NoBody := c_NoBody) (c_NoCore := c_NoCore) (c_NoValue := c_NoValue) (c_TooGreat := c_TooGreat) (c_TooWide := c_TooWide) (c_NoText := c_NoText) (c_NoSheet := c_NoSheet) (c_NoRow := c_NoRow) (c_TwoValues := c_TwoValues) (c_NoForm := c_NoForm) (c_NoLine := c_NoLine) (c_TooMany := c_TooMany) (c_TwoRows := c_TwoRows) (c_PadError := c_PadError) F12 B Z H_law_list H_law_cell ⟨_, _, G_TwoValues___init__, ⟨xi_TwoValues, fn_TwoValues, kp_TwoValues⟩, b_TwoValues___init__⟩ ⟨_, _, G_NoForm___init__, ⟨xi_NoForm, fn_NoForm, kp_NoForm⟩, b_NoForm___init__⟩ ⟨_, _, G_NoLine___init__, ⟨xi_NoLine, fn_NoLine, kp_NoLine⟩, b_NoLine___init__⟩ ⟨_, _, G_TooMany___init__, ⟨xi_TooMany, fn_TooMany, kp_TooMany⟩, b_TooMany___init__⟩ ⟨_, _, G_TwoRows___init__, ⟨xi_TwoRows, fn_TwoRows, kp_TwoRows⟩, b_TwoRows___init__⟩, PySem.W.mg_of X G a12, k12, F12.binds fun _ _ _ _ _ _ us hl => match us, hl with | [_, _], _ => rfl⟩
  have F13 := fun_mk (st := s_law_fields) l13 c13 k13
  have H_law_fields : Has l.prog w K mg base "_law_fields" 2 ["_law_made_here", "_law_due"] (sp_law_fields K (kinds c_NoNumber c_NoFigures c_NoGroups c_NoBody c_NoCore c_NoValue c_TooGreat c_TooWide c_NoText c_NoSheet c_NoRow c_TwoValues c_NoForm c_NoLine c_TooMany c_TwoRows)) := ⟨_, _, ok_law_fields (c_NoNumber := c_NoNumber) (c_NoFigures := c_NoFigures) (c_NoGroups := c_NoGroups) (c_NoBody := c_NoBody) (c_NoCore := c_NoCore) (c_NoValue := c_NoValue) (c_TooGreat := c_TooGreat) (c_TooWide := c_TooWide) (c_NoText := c_NoText) (c_NoSheet := c_NoSheet) (c_NoRow := c_NoRow) (c_TwoValues := c_TwoValues) (c_NoForm := c_NoForm) (c_NoLine := c_NoLine) (c_TooMany := c_TooMany) (c_TwoRows := c_TwoRows) (c_PadError := c_PadError) F13 B Z H_law_is_list H_law_whole , PySem.W.mg_of X G a13, k13, F13.binds fun _ _ _ _ _ _ us hl => match us, hl with | [_, _], _ => rfl⟩
  have F14 := fun_mk (st := s_law) l14 c14 k14
  exact ok_law (c_NoNumber := c_NoNumber) (c_NoFigures := c_NoFigures) (c_NoGroups := c_NoGroups) (c_NoBody := c_NoBody) (c_NoCore := c_NoCore) (c_NoValue := c_NoValue) (c_TooGreat := c_TooGreat) (c_TooWide := c_TooWide) (c_NoText := c_NoText) (c_NoSheet := c_NoSheet) (c_NoRow := c_NoRow) (c_TwoValues := c_TwoValues) (c_NoForm := c_NoForm) (c_NoLine := c_NoLine) (c_TooMany := c_TooMany) (c_TwoRows := c_TwoRows) (c_PadError := c_PadError) F14 B Z H_law_made H_law_plain H_law_flags H_law_fields H_law_draw H_law_cell
theorem walk {l : PySem.W.OpenLaw} {q : Program} {loose : List Str} {XP : (Str → Option Value) → Heap → Prop} {YP : World → Heap → Prop} {d : DefRec} {K : Params → PySem.W.Frag} (hn : l.most = some 63) (hdf : d.params.defaults = [])
    (hY : ∀ (w : World) (h : Heap), YP w h → (K w.params).In h)
    (F : ∀ (w : World) (mg : Str → Option Value) (fa : Addr) (h : Heap), (K w.params).In h → h.Ns mainGlobals mg → mg d.name = some (.ref fa) →
      ∃ fd : FuncData, (∀ (s : Shared) (u : Value), BindsTo s fd ⟨[u], []⟩ [("_law_script", u)]) ∧ ∀ base : Heap, (K w.params).In base → base.Ns mainGlobals mg → FnOk l.prog w (K w.params) mg base CX0 4 fa fd ["_law_script"] (sp_law (K w.params))) :
    PySem.W.WalkO q loose XP YP l.row.toRowW d [] (fun f vs => PySem.call f vs) :=
  L2.walk_of (n := 63) (k := 4) (x := "_law_script") (CX := fun _ => CX0) (sp := fun w => sp_law (K w.params)) hn (by decide) hdf ⟨rfl, by decide, by decide⟩ hY F (fun _ _ a ns hl _ hS => ⟨a, ns, rfl, hS, hl, fun _ => rfl⟩) fun _ _ _ _ _ z => z
end Pw
open PySem PySem.W PyProof.Rows
set_option maxRecDepth 100000 in
set_option maxHeartbeats 0 in
theorem PySem.Challenge.cw_padwright_k19_refusals_with_fields_holds : PySem.Challenge.rw_padwright_k19_refusals_with_fields.Holds := by
  w_on; o_law; k_head; (case hw => w_witness2)
  k_fill
  refine Pw.walk (l := PySem.Challenge.rw_padwright_k19_refusals_with_fields) rfl rfl (fun w h Y => PySem.W.kIn_of Y) ?F
  case F =>
    intro w mg fa h KX G hmg
    refine' Pw.all_mk KX G hmg ?a0 ?l0 ?c0 ?k0 ?a1 ?l1 ?c1 ?k1 ?a2 ?l2 ?c2 ?k2 ?a3 ?l3 ?c3 ?k3 ?a4 ?l4 ?c4 ?k4 ?a5 ?l5 ?c5 ?k5 ?a6 ?l6 ?c6 ?k6 ?a7 ?l7 ?c7 ?k7 ?a8 ?l8 ?c8 ?k8 ?a9 ?l9 ?c9 ?k9 ?a10 ?l10 ?c10 ?k10 ?a11 ?l11 ?c11 ?k11 ?a12 ?l12 ?c12 ?k12 ?a13 ?l13 ?c13 ?k13 ?a14 ?l14 ?c14 ?k14 ?z_list ?z_len ?z_isinstance ?z_bool ?z_int ?z_range ?z_ValueError ?n_NoNumber ?n_NoFigures ?n_NoGroups ?n_NoBody ?n_NoCore ?n_NoValue ?n_TooGreat ?n_TooWide ?n_NoText ?n_NoSheet ?n_NoRow ?n_TwoValues ?n_NoForm ?n_NoLine ?n_TooMany ?n_TwoRows ?n_PadError ?ex_NoNumber ?h1_NoNumber ?h2_NoNumber ?hb_NoNumber ?hd_NoNumber ?ha_NoNumber ?hn_NoNumber ?ht_NoNumber ?hm_NoNumber ?ex_NoFigures ?h1_NoFigures ?h2_NoFigures ?hb_NoFigures ?hd_NoFigures ?ha_NoFigures ?hn_NoFigures ?ht_NoFigures ?hm_NoFigures ?ex_NoGroups ?h1_NoGroups ?h2_NoGroups ?hb_NoGroups ?hd_NoGroups ?ha_NoGroups ?hn_NoGroups ?ht_NoGroups ?hm_NoGroups ?ex_NoBody ?h1_NoBody ?h2_NoBody ?hb_NoBody ?hd_NoBody ?ha_NoBody ?hn_NoBody ?ht_NoBody ?hm_NoBody ?ex_NoCore ?h1_NoCore ?h2_NoCore ?hb_NoCore ?hd_NoCore ?ha_NoCore ?hn_NoCore ?ht_NoCore ?hm_NoCore ?ex_NoValue ?h1_NoValue ?h2_NoValue ?hb_NoValue ?hd_NoValue ?ha_NoValue ?hn_NoValue ?ht_NoValue ?hm_NoValue ?ex_TooGreat ?h1_TooGreat ?h2_TooGreat ?hb_TooGreat ?hd_TooGreat ?ha_TooGreat ?hn_TooGreat ?ht_TooGreat ?hm_TooGreat ?ex_TooWide ?h1_TooWide ?h2_TooWide ?hb_TooWide ?hd_TooWide ?ha_TooWide ?hn_TooWide ?ht_TooWide ?hm_TooWide ?ex_NoText ?h1_NoText ?h2_NoText ?hb_NoText ?hd_NoText ?ha_NoText ?hn_NoText ?ht_NoText ?hm_NoText ?ex_NoSheet ?h1_NoSheet ?h2_NoSheet ?hb_NoSheet ?hd_NoSheet ?ha_NoSheet ?hn_NoSheet ?ht_NoSheet ?hm_NoSheet ?ex_NoRow ?h1_NoRow ?h2_NoRow ?hb_NoRow ?hd_NoRow ?ha_NoRow ?hn_NoRow ?ht_NoRow ?hm_NoRow ?ex_PadError ?h1_PadError ?h2_PadError ?hb_PadError ?hd_PadError ?ha_PadError ?hn_PadError ?ht_PadError ?hm_PadError ?kp_NoNumber ?kp_NoFigures ?kp_NoGroups ?kp_NoBody ?kp_NoCore ?kp_NoValue ?kp_TooGreat ?kp_TooWide ?kp_NoText ?kp_NoSheet ?kp_NoRow ?kp_PadError ?h1_TwoValues ?h2_TwoValues ?hb_TwoValues ?hd_TwoValues ?ha_TwoValues ?hn_TwoValues ?ht_TwoValues ?hm_TwoValues ?xi_TwoValues ?fn_TwoValues ?kp_TwoValues ?sa_TwoValues ?na_TwoValues_told ?h1_NoForm ?h2_NoForm ?hb_NoForm ?hd_NoForm ?ha_NoForm ?hn_NoForm ?ht_NoForm ?hm_NoForm ?xi_NoForm ?fn_NoForm ?kp_NoForm ?sa_NoForm ?na_NoForm_at ?h1_NoLine ?h2_NoLine ?hb_NoLine ?hd_NoLine ?ha_NoLine ?hn_NoLine ?ht_NoLine ?hm_NoLine ?xi_NoLine ?fn_NoLine ?kp_NoLine ?sa_NoLine ?na_NoLine_at ?h1_TooMany ?h2_TooMany ?hb_TooMany ?hd_TooMany ?ha_TooMany ?hn_TooMany ?ht_TooMany ?hm_TooMany ?xi_TooMany ?fn_TooMany ?kp_TooMany ?sa_TooMany ?na_TooMany_number ?h1_TwoRows ?h2_TwoRows ?hb_TwoRows ?hd_TwoRows ?ha_TwoRows ?hn_TwoRows ?ht_TwoRows ?hm_TwoRows ?xi_TwoRows ?fn_TwoRows ?kp_TwoRows ?sa_TwoRows ?na_TwoRows_at ?na_TwoRows_one ?na_TwoRows_other ?pi1 ?pi2 ?pi3 ?kt ?kpp
    (case n_NoNumber => k_is)
    (case n_NoFigures => k_is)
    (case n_NoGroups => k_is)
    (case n_NoBody => k_is)
    (case n_NoCore => k_is)
    (case n_NoValue => k_is)
    (case n_TooGreat => k_is)
    (case n_TooWide => k_is)
    (case n_NoText => k_is)
    (case n_NoSheet => k_is)
    (case n_NoRow => k_is)
    (case n_TwoValues => k_is)
    (case n_NoForm => k_is)
    (case n_NoLine => k_is)
    (case n_TooMany => k_is)
    (case n_TwoRows => k_is)
    (case n_PadError => k_is)
    (case a0 => k_is); (case l0 => k_is); (case c0 => k_is); (case k0 => k_is)
    (case a1 => k_is); (case l1 => k_is); (case c1 => k_is); (case k1 => k_is)
    (case a2 => k_is); (case l2 => k_is); (case c2 => k_is); (case k2 => k_is)
    (case a3 => k_is); (case l3 => k_is); (case c3 => k_is); (case k3 => k_is)
    (case a4 => k_is); (case l4 => k_is); (case c4 => k_is); (case k4 => k_is)
    (case a5 => k_is); (case l5 => k_is); (case c5 => k_is); (case k5 => k_is)
    (case a6 => k_is); (case l6 => k_is); (case c6 => k_is); (case k6 => k_is)
    (case a7 => k_is); (case l7 => k_is); (case c7 => k_is); (case k7 => k_is)
    (case a8 => k_is); (case l8 => k_is); (case c8 => k_is); (case k8 => k_is)
    (case a9 => k_is); (case l9 => k_is); (case c9 => k_is); (case k9 => k_is)
    (case a10 => k_is); (case l10 => k_is); (case c10 => k_is); (case k10 => k_is)
    (case a11 => k_is); (case l11 => k_is); (case c11 => k_is); (case k11 => k_is)
    (case a12 => k_is); (case l12 => k_is); (case c12 => k_is); (case k12 => k_is)
    (case a13 => k_is); (case l13 => k_is); (case c13 => k_is); (case k13 => k_is)
    (case a14 => k_is); (case l14 => k_is); (case c14 => k_is); (case k14 => k_is)
    (case z_list => k_is)
    (case z_len => k_is)
    (case z_isinstance => k_is)
    (case z_bool => k_is)
    (case z_int => k_is)
    (case z_range => k_is)
    (case z_ValueError => k_is)
    (case ex_NoNumber => k_exc)
    (case h1_NoNumber => k_is)
    (case h2_NoNumber => k_is)
    (case hb_NoNumber => k_is)
    (case hd_NoNumber => k_is)
    (case ha_NoNumber => k_is)
    (case hn_NoNumber => k_is)
    (case ht_NoNumber => k_is)
    (case hm_NoNumber => k_is)
    (case ex_NoFigures => k_exc)
    (case h1_NoFigures => k_is)
    (case h2_NoFigures => k_is)
    (case hb_NoFigures => k_is)
    (case hd_NoFigures => k_is)
    (case ha_NoFigures => k_is)
    (case hn_NoFigures => k_is)
    (case ht_NoFigures => k_is)
    (case hm_NoFigures => k_is)
    (case ex_NoGroups => k_exc)
    (case h1_NoGroups => k_is)
    (case h2_NoGroups => k_is)
    (case hb_NoGroups => k_is)
    (case hd_NoGroups => k_is)
    (case ha_NoGroups => k_is)
    (case hn_NoGroups => k_is)
    (case ht_NoGroups => k_is)
    (case hm_NoGroups => k_is)
    (case ex_NoBody => k_exc)
    (case h1_NoBody => k_is)
    (case h2_NoBody => k_is)
    (case hb_NoBody => k_is)
    (case hd_NoBody => k_is)
    (case ha_NoBody => k_is)
    (case hn_NoBody => k_is)
    (case ht_NoBody => k_is)
    (case hm_NoBody => k_is)
    (case ex_NoCore => k_exc)
    (case h1_NoCore => k_is)
    (case h2_NoCore => k_is)
    (case hb_NoCore => k_is)
    (case hd_NoCore => k_is)
    (case ha_NoCore => k_is)
    (case hn_NoCore => k_is)
    (case ht_NoCore => k_is)
    (case hm_NoCore => k_is)
    (case ex_NoValue => k_exc)
    (case h1_NoValue => k_is)
    (case h2_NoValue => k_is)
    (case hb_NoValue => k_is)
    (case hd_NoValue => k_is)
    (case ha_NoValue => k_is)
    (case hn_NoValue => k_is)
    (case ht_NoValue => k_is)
    (case hm_NoValue => k_is)
    (case ex_TooGreat => k_exc)
    (case h1_TooGreat => k_is)
    (case h2_TooGreat => k_is)
    (case hb_TooGreat => k_is)
    (case hd_TooGreat => k_is)
    (case ha_TooGreat => k_is)
    (case hn_TooGreat => k_is)
    (case ht_TooGreat => k_is)
    (case hm_TooGreat => k_is)
    (case ex_TooWide => k_exc)
    (case h1_TooWide => k_is)
    (case h2_TooWide => k_is)
    (case hb_TooWide => k_is)
    (case hd_TooWide => k_is)
    (case ha_TooWide => k_is)
    (case hn_TooWide => k_is)
    (case ht_TooWide => k_is)
    (case hm_TooWide => k_is)
    (case ex_NoText => k_exc)
    (case h1_NoText => k_is)
    (case h2_NoText => k_is)
    (case hb_NoText => k_is)
    (case hd_NoText => k_is)
    (case ha_NoText => k_is)
    (case hn_NoText => k_is)
    (case ht_NoText => k_is)
    (case hm_NoText => k_is)
    (case ex_NoSheet => k_exc)
    (case h1_NoSheet => k_is)
    (case h2_NoSheet => k_is)
    (case hb_NoSheet => k_is)
    (case hd_NoSheet => k_is)
    (case ha_NoSheet => k_is)
    (case hn_NoSheet => k_is)
    (case ht_NoSheet => k_is)
    (case hm_NoSheet => k_is)
    (case ex_NoRow => k_exc)
    (case h1_NoRow => k_is)
    (case h2_NoRow => k_is)
    (case hb_NoRow => k_is)
    (case hd_NoRow => k_is)
    (case ha_NoRow => k_is)
    (case hn_NoRow => k_is)
    (case ht_NoRow => k_is)
    (case hm_NoRow => k_is)
    (case ex_PadError => k_exc)
    (case h1_PadError => k_is)
    (case h2_PadError => k_is)
    (case hb_PadError => k_is)
    (case hd_PadError => k_is)
    (case ha_PadError => k_is)
    (case hn_PadError => k_is)
    (case ht_PadError => k_is)
    (case hm_PadError => k_is)
    (case kp_NoNumber => k_is)
    (case kp_NoFigures => k_is)
    (case kp_NoGroups => k_is)
    (case kp_NoBody => k_is)
    (case kp_NoCore => k_is)
    (case kp_NoValue => k_is)
    (case kp_TooGreat => k_is)
    (case kp_TooWide => k_is)
    (case kp_NoText => k_is)
    (case kp_NoSheet => k_is)
    (case kp_NoRow => k_is)
    (case kp_PadError => k_is)
    (case h1_TwoValues => k_is)
    (case h2_TwoValues => k_is)
    (case hb_TwoValues => k_is)
    (case hd_TwoValues => k_is)
    (case ha_TwoValues => k_is)
    (case hn_TwoValues => k_is)
    (case ht_TwoValues => k_is)
    (case hm_TwoValues => k_is)
    (case xi_TwoValues => kernel_rfl)
    (case fn_TwoValues => k_is)
    (case kp_TwoValues => k_is)
    (case sa_TwoValues => k_is)
    (case na_TwoValues_told => k_is)
    (case h1_NoForm => k_is)
    (case h2_NoForm => k_is)
    (case hb_NoForm => k_is)
    (case hd_NoForm => k_is)
    (case ha_NoForm => k_is)
    (case hn_NoForm => k_is)
    (case ht_NoForm => k_is)
    (case hm_NoForm => k_is)
    (case xi_NoForm => kernel_rfl)
    (case fn_NoForm => k_is)
    (case kp_NoForm => k_is)
    (case sa_NoForm => k_is)
    (case na_NoForm_at => k_is)
    (case h1_NoLine => k_is)
    (case h2_NoLine => k_is)
    (case hb_NoLine => k_is)
    (case hd_NoLine => k_is)
    (case ha_NoLine => k_is)
    (case hn_NoLine => k_is)
    (case ht_NoLine => k_is)
    (case hm_NoLine => k_is)
    (case xi_NoLine => kernel_rfl)
    (case fn_NoLine => k_is)
    (case kp_NoLine => k_is)
    (case sa_NoLine => k_is)
    (case na_NoLine_at => k_is)
    (case h1_TooMany => k_is)
    (case h2_TooMany => k_is)
    (case hb_TooMany => k_is)
    (case hd_TooMany => k_is)
    (case ha_TooMany => k_is)
    (case hn_TooMany => k_is)
    (case ht_TooMany => k_is)
    (case hm_TooMany => k_is)
    (case xi_TooMany => kernel_rfl)
    (case fn_TooMany => k_is)
    (case kp_TooMany => k_is)
    (case sa_TooMany => k_is)
    (case na_TooMany_number => k_is)
    (case h1_TwoRows => k_is)
    (case h2_TwoRows => k_is)
    (case hb_TwoRows => k_is)
    (case hd_TwoRows => k_is)
    (case ha_TwoRows => k_is)
    (case hn_TwoRows => k_is)
    (case ht_TwoRows => k_is)
    (case hm_TwoRows => k_is)
    (case xi_TwoRows => kernel_rfl)
    (case fn_TwoRows => k_is)
    (case kp_TwoRows => k_is)
    (case sa_TwoRows => k_is)
    (case na_TwoRows_at => k_is)
    (case na_TwoRows_one => k_is)
    (case na_TwoRows_other => k_is)
    (case pi1 => k_is)
    (case pi2 => k_is)
    (case pi3 => k_is)
    (case kt => kernel_rfl)
    (case kpp => kernel_rfl)

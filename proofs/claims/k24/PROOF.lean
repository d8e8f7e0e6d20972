import PyProof.Rows.All
import Wide.All
import OpenK.AllK
import Wide.FinOn
import Lean
import PyProof.EqAt
import PyProof.EqKinds
import PyProof.TupleCall
import PyProof.NeKinds
import KE.KTryMore
import PyProof.Rows.CatchOwn
import PyProof.ExcAttrAll.ValueError
import PyProof.NeData
import PySem.Challenge.RW_padwright_k24_no_bodies
set_option Elab.async false
set_option linter.all false
set_option maxRecDepth 100000
namespace L2
open PySem PySem.Spec PyProof.Rows
abbrev Key := Sum Int Str
def keyIs : Key → Value → Bool
  | .inl k, v => Value.isInt k v
  | .inr x, v => Value.isStrOf x v
def keyH (w : World) : Key → Int
  | .inl k => hashInt k
  | .inr x => hashStr w x
theorem keyIs_shape : ∀ {k : Key} {v : Value}, keyIs k v = true → (∃ i t, k = Sum.inl i ∧ v = Value.int i t) ∨ (∃ x t, k = Sum.inr x ∧ v = Value.str x t)
  | .inl i, v, h => by
    obtain ⟨t, e⟩ := Value.isInt_shape (k := i) (v := v) h
    exact .inl ⟨i, t, rfl, e⟩
  | .inr x, v, h => by
    obtain ⟨t, e⟩ := Value.isStrOf_shape (x := x) (v := v) h
    exact .inr ⟨x, t, rfl, e⟩
theorem key_ll (a b : Int) : decide ((Sum.inl a : Key) = Sum.inl b) = (a == b) := by
  by_cases e : a = b
  · subst e; simp
  · have h : ¬ (Sum.inl a : Key) = Sum.inl b := fun q => e (Sum.inl.inj q)
    rw [decide_eq_false h]
    exact (beq_eq_false_iff_ne.mpr e).symm
theorem key_rr (a b : Str) : decide ((Sum.inr a : Key) = Sum.inr b) = decide (a = b) := by
  by_cases e : a = b
  · subst e; simp
  · have h : ¬ (Sum.inr a : Key) = Sum.inr b := fun q => e (Sum.inr.inj q)
    rw [decide_eq_false h, decide_eq_false e]
theorem key_lr (a : Int) (b : Str) : decide ((Sum.inl a : Key) = Sum.inr b) = false := decide_eq_false (fun q => nomatch q)
theorem key_rl (a : Str) (b : Int) : decide ((Sum.inr a : Key) = Sum.inl b) = false := decide_eq_false (fun q => nomatch q)
def mixKind (prog : Program) (w : World) : PySem.KeyKind prog w Key where
  is := keyIs
  hash := keyH w
  inj := fun v a b ha hb => by
    rcases keyIs_shape ha with ⟨i, t, rfl, rfl⟩ | ⟨x, t, rfl, rfl⟩
    · rcases keyIs_shape hb with ⟨j, u, rfl, e⟩ | ⟨y, u, rfl, e⟩
      · injection e with e1 _; rw [e1]
      · exact nomatch e
    · rcases keyIs_shape hb with ⟨j, u, rfl, e⟩ | ⟨y, u, rfl, e⟩
      · exact nomatch e
      · injection e with e1 _; rw [e1]
  byValue := fun k v h => by
    rcases keyIs_shape h with ⟨i, t, rfl, rfl⟩ | ⟨x, t, rfl, rfl⟩ <;> rfl
  pyHash := fun hv h => by
    rcases keyIs_shape hv with ⟨i, t, rfl, rfl⟩ | ⟨x, t, rfl, rfl⟩
    · exact wpAny_pyHash_int h
    · exact wpAny_pyHash_str h
  eqBool := fun hu hv h => by
    rcases keyIs_shape hu with ⟨i, t, rfl, rfl⟩ | ⟨x, t, rfl, rfl⟩
    · rcases keyIs_shape hv with ⟨j, u, rfl, rfl⟩ | ⟨y, u, rfl, rfl⟩
      · rw [key_ll] at h; exact wpAny_eqBool_int h
      · rw [key_lr] at h; exact SeqAt.EqAt.int_str i t y u _ _ _ _ h
    · rcases keyIs_shape hv with ⟨j, u, rfl, rfl⟩ | ⟨y, u, rfl, rfl⟩
      · rw [key_rl] at h; exact SeqAt.EqAt.str_int x t j u _ _ _ _ h
      · rw [key_rr] at h; exact wpAny_eqBool_str h
  «strs» := fun k x t v h => by
    rcases keyIs_shape h with ⟨i, u, rfl, e⟩ | ⟨y, u, rfl, e⟩
    · exact nomatch e
    · injection e with e1 _
      subst e1
      cases v <;> rfl
end L2
namespace L2
open PySem PySem.Spec PyProof.Rows
inductive V where
  | non | bl (b : Bool) | int (i : Int) | str (x : Str) | byt (b : Array UInt8) | flt (b : UInt64) | ref (a : Addr) | ty (n : String)
  deriving DecidableEq
def RelV : V → Value → Prop
  | .non, u => u = Value.none
  | .bl b, u => u = Value.bool b
  | .int i, u => ∃ t, u = Value.int i t
  | .str x, u => ∃ t, u = Value.str x t
  | .byt b, u => ∃ t, u = Value.bytes b t
  | .flt b, u => ∃ t, u = Value.float b t
  | .ref a, u => u = Value.ref a
  | .ty n, u => u = Value.type n
abbrev Vals : List V → List Value → Prop := Paired RelV
theorem Vals.length {xs : List V} {us : List Value} (r : Vals xs us) : xs.length = us.length := Paired.length r
theorem Vals.get : ∀ {xs : List V} {us : List Value} {i : Nat} {x : V}, Vals xs us → xs[i]? = some x → ∃ u, us[i]? = some u ∧ RelV x u
  | _, _, _, _, .nil, e => by simp at e
  | _, _, 0, _, .cons r _, e => by simp at e; subst e; exact ⟨_, rfl, r⟩
  | _, _, i + 1, x, .cons _ t, e => by
    obtain ⟨u, h1, h2⟩ := Vals.get (i := i) (x := x) t (by simpa using e)
    exact ⟨u, by simpa using h1, h2⟩
theorem Vals.set {x : V} {u : Value} (r : RelV x u) : ∀ {xs : List V} {us : List Value} (i : Nat), Vals xs us → Vals (xs.set i x) (us.set i u)
  | _, _, _, .nil => .nil
  | _, _, 0, .cons _ t => .cons r t
  | _, _, i + 1, .cons q t => .cons q (Vals.set r i t)
theorem Vals.append : ∀ {xs ys : List V} {us ws : List Value}, Vals xs us → Vals ys ws → Vals (xs ++ ys) (us ++ ws)
  | _, _, _, _, .nil, s => s
  | _, _, _, _, .cons r t, s => .cons r (Vals.append t s)
theorem Vals.take : ∀ {xs : List V} {us : List Value} (n : Nat), Vals xs us → Vals (xs.take n) (us.take n)
  | _, _, 0, _ => .nil
  | _, _, _ + 1, .nil => .nil
  | _, _, n + 1, .cons r t => .cons r (Vals.take n t)
theorem Vals.drop : ∀ {xs : List V} {us : List Value} (n : Nat), Vals xs us → Vals (xs.drop n) (us.drop n)
  | _, _, 0, r => r
  | _, _, _ + 1, .nil => .nil
  | _, _, n + 1, .cons _ t => Vals.drop n t
def RelO : Option V → Option Value → Prop
  | some v, some u => RelV v u
  | none, none => True
  | _, _ => False
def KV {κ : Type} : List (κ × V) → List (κ × Value) → Prop := Paired fun (p : κ × V) (q : κ × Value) => p.1 = q.1 ∧ RelV p.2 q.2
def kV : Key → V
  | .inl i => .int i
  | .inr x => .str x
inductive HO where
  | lst (xs : List V)
  | tup (xs : List V)
  | dK (kvs : List (Key × V)) | dT (kvs : List (List Key × V))
  | set (S : Int → Bool) (n : Nat)
  | ins (C dx : Addr) (fs : List (Str × V))
  | own (x : Addr)
  | xd (fs : List (Str × V))
  | met (f x : Addr)
  | rng (lo hi : Int)
  | frz (o : Obj) (u : HO)
  | tbl (ps : Array Value)
  | ext (φ : Heap → Prop)
abbrev Hp := Addr → Option HO
def upd (H : Hp) (a : Addr) (o : HO) : Hp := fun b => if b = a then some o else H b
theorem upd_same {H : Hp} {a : Addr} {o : HO} : upd H a o a = some o := by unfold upd; rw [if_pos rfl]
theorem upd_ne {H : Hp} {a b : Addr} {o : HO} (h : b ≠ a) : upd H a o b = H b := by unfold upd; rw [if_neg h]
theorem upd_upd {H : Hp} {a : Addr} {o u : HO} : upd (upd H a o) a u = upd H a u := by
  funext b; unfold upd; split <;> rfl
theorem ne_of_none {H : Hp} {a b : Addr} {o : HO} (h : H a = some o) (h' : H b = none) : a ≠ b := by
  intro e; subst e; rw [h] at h'; cases h'
section
variable (P : Program) (w : World)
def ObjOk (H : Hp) (h : Heap) (a : Addr) : HO → Prop
  | .lst xs => xs.length ≤ sizeLine ∧ ∃ (its : List Value) (n : Nat), Vals xs its ∧ h.get? a = some { cls := .type "list", data := .seq its.toArray n }
  | .tup xs => xs.length ≤ sizeLine ∧ ∃ its : List Value, Vals xs its ∧ IsTup h a its.toArray
  | .dK kvs => kvs.length ≤ sizeLine ∧ (a == sysModules) = false ∧ ∃ vs, KV kvs vs ∧ h.DictOf (mixKind P w) a vs
  | .dT kvs => kvs.length ≤ sizeLine ∧ (a == sysModules) = false ∧ ∃ xs : List (List Key × Addr × Value),
      Paired (fun (p : List Key × V) (q : List Key × Addr × Value) => p.1 = q.1 ∧ H q.2.1 = some (.tup (p.1.map kV)) ∧ RelV p.2 q.2.2) kvs xs ∧
      ∃ o es ep, h.get? a = some o ∧ o.ExactDict ∧ o.data = .dict es ep ∧ es.toList = xs.map (entryOfKey (tupleKind (mixKind P w))) ∧ (xs.map (·.1)).Nodup
  | .set S n => h.SetOf (intKind P w) a S n
  | .ins C dx fs => H dx = some (.own a) ∧ fs.length ≤ 1000 ∧ dx ≠ a ∧ h.get? a = some (PySem.W.instObj C dx) ∧
      ∃ mA, h.Ns1 dx mA ∧ (∀ f, RelO (fs.lookup f) (mA f)) ∧ PySem.Within mA (fs.map (·.1))
  | .own _ => ∃ o, h.get? a = some o
  | .xd fs => ∃ mA, h.Ns1 a mA ∧ ∀ f, RelO (fs.lookup f) (mA f)
  | .rng lo hi => ∃ t u v, h.get? a = some { cls := .type "range", data := .fields #[.int lo t, .int hi u, .int 1 v] }
  | .frz o u => h.get? a = some o ∧ ObjOk H h a u
  | .tbl ps => h.get? a = some { cls := .none, data := .fields ps }
  | .met f x => h.get? a = some (PySem.W.methodObj (.ref f) (.ref x))
  | .ext φ => φ h ∧ (∃ o, h.get? a = some o) ∧ ∀ h1 h2 : Heap, φ h1 → (∀ o, h1.get? a = some o → h2.get? a = some o) → φ h2
def HOk (H : Hp) (h : Heap) : Prop := ∀ a o, H a = some o → ObjOk P w H h a o
end
section
variable {P : Program} {w : World} {H H' : Hp} {h h' : Heap} {a : Addr} {o : HO}
theorem ObjOk.lt (x : ObjOk P w H h a o) : a < h.objs.size := by
  cases o with
  | lst xs => obtain ⟨_, _, _, _, e⟩ := x; exact Heap.lt_size e
  | tup xs => obtain ⟨_, _, _, p⟩ := x; exact p.lt
  | dK kvs => obtain ⟨_, _, _, _, o, _, _, e, _⟩ := x; exact Heap.lt_size e
  | dT kvs => obtain ⟨_, _, _, _, o, _, _, e, _⟩ := x; exact Heap.lt_size e
  | set S n => obtain ⟨o, _, _, _, e, _⟩ := x; exact Heap.lt_size e
  | ins C dx fs => obtain ⟨_, _, _, e, _⟩ := x; exact Heap.lt_size e
  | own y => obtain ⟨_, e⟩ := x; exact Heap.lt_size e
  | xd fs => obtain ⟨_, ⟨_, _, _, e, _⟩, _⟩ := x; exact Heap.lt_size e
  | rng lo hi => obtain ⟨_, _, _, e⟩ := x; exact Heap.lt_size e
  | frz ob u => obtain ⟨e, _⟩ := x; exact Heap.lt_size e
  | tbl ps => exact Heap.lt_size (show h.get? a = some _ from x)
  | met f y => exact Heap.lt_size (show h.get? a = some _ from x)
  | ext φ => obtain ⟨_, ⟨_, e⟩, _⟩ := x; exact Heap.lt_size e
theorem Paired.mapP {α β : Type} {F G : α → β → Prop} : ∀ {l₁ : List α} {l₂ : List β}, Paired F l₁ l₂ → (∀ a b, F a b → G a b) → Paired G l₁ l₂
  | _, _, .nil, _ => .nil
  | _, _, .cons r t, f => .cons (f _ _ r) (Paired.mapP t f)
theorem ObjOk.stay (x : ObjOk P w H h a o) (k : ∀ b u, (b = a ∨ H b = some (.own a)) → h.get? b = some u → h'.get? b = some u)
    (ho : ∀ b, H b = some (.own a) → H' b = some (.own a)) (ht : ∀ b xs, H b = some (.tup xs) → H' b = some (.tup xs)) : ObjOk P w H' h' a o := by
  induction o with
  | lst xs => obtain ⟨z, its, n, r, e⟩ := x; exact ⟨z, its, n, r, k _ _ (.inl rfl) e⟩
  | tup xs => obtain ⟨z, its, r, ob, e, c⟩ := x; exact ⟨z, its, r, ob, k _ _ (.inl rfl) e, c⟩
  | dK kvs => obtain ⟨z, y, vs, r, ob, es, ep, e, c⟩ := x; exact ⟨z, y, vs, r, ob, es, ep, k _ _ (.inl rfl) e, c⟩
  | dT kvs =>
    obtain ⟨z, y, xs, r, ob, es, ep, e, c⟩ := x
    exact ⟨z, y, xs, Paired.mapP r fun p q z => ⟨z.1, ht _ _ z.2.1, z.2.2⟩, ob, es, ep, k _ _ (.inl rfl) e, c⟩
  | set S n => obtain ⟨ob, es, ep, t, e, c⟩ := x; exact ⟨ob, es, ep, t, k _ _ (.inl rfl) e, c⟩
  | ins C dx fs =>
    obtain ⟨d, z, ne, e, mA, ⟨od, es, ep, e2, c⟩, r⟩ := x
    exact ⟨ho _ d, z, ne, k _ _ (.inl rfl) e, mA, ⟨od, es, ep, k _ _ (.inr d) e2, c⟩, r⟩
  | own y => obtain ⟨ob, e⟩ := x; exact ⟨ob, k _ _ (.inl rfl) e⟩
  | xd fs => obtain ⟨mA, ⟨od, es, ep, e, c⟩, r⟩ := x; exact ⟨mA, ⟨od, es, ep, k _ _ (.inl rfl) e, c⟩, r⟩
  | rng lo hi => obtain ⟨t, u, v, e⟩ := x; exact ⟨t, u, v, k _ _ (.inl rfl) e⟩
  | frz ob u ih => obtain ⟨e, q⟩ := x; exact ⟨k _ _ (.inl rfl) e, ih q⟩
  | tbl ps =>
    have e : h.get? a = some { cls := .none, data := .fields ps } := x
    show h'.get? a = some { cls := .none, data := .fields ps }
    exact k a _ (.inl rfl) e
  | met f y =>
    have e : h.get? a = some (PySem.W.methodObj (.ref f) (.ref y)) := x
    show h'.get? a = some (PySem.W.methodObj (.ref f) (.ref y))
    exact k a _ (.inl rfl) e
  | ext φ => obtain ⟨p, ⟨o, e⟩, st⟩ := x; exact ⟨st _ _ p fun o q => k _ _ (.inl rfl) q, ⟨o, k _ _ (.inl rfl) e⟩, st⟩
theorem HOk.lt (x : HOk P w H h) (e : H a = some o) : a < h.objs.size := (x a o e).lt
theorem HOk.fresh (x : HOk P w H h) (e : h.objs.size ≤ a) : H a = none := by
  cases q : H a with
  | none => rfl
  | some u => exact absurd (Nat.lt_of_lt_of_le (x.lt q) e) (Nat.lt_irrefl _)
theorem HOk.kept (x : HOk P w H h) (k : ∀ b u, h.get? b = some u → h'.get? b = some u) : HOk P w H h' := fun a o e =>
  (x a o e).stay (fun b u _ q => k b u q) (fun _ q => q) fun _ _ q => q
theorem HOk.laid (x : HOk P w H h) (k : ∀ b u, h.get? b = some u → h'.get? b = some u) (hp : h.objs.size ≤ a) (new : ObjOk P w (upd H a o) h' a o) : HOk P w (upd H a o) h' := fun b u e => by
  have hn := x.fresh hp
  by_cases hb : b = a
  · subst hb; rw [upd_same] at e; cases e; exact new
  · rw [upd_ne hb] at e
    exact (x b u e).stay (fun c v _ q => k c v q) (fun c q => by rw [upd_ne (ne_of_none q hn)]; exact q) fun c xs q => by rw [upd_ne (ne_of_none q hn)]; exact q
end
def Rd (H : Hp) (a : Addr) (u : HO) : Prop := H a = some u ∨ ∃ o, H a = some (.frz o u)
theorem Rd.of {H : Hp} {a : Addr} {u : HO} (h : H a = some u) : Rd H a u := .inl h
theorem Rd.ok {P : Program} {w : World} {H : Hp} {h : Heap} {a : Addr} {u : HO} (r : Rd H a u) (x : HOk P w H h) : ObjOk P w H h a u := by
  rcases r with r | ⟨o, r⟩
  · exact x a u r
  · obtain ⟨_, q⟩ := x a _ r
    exact q
def Mut : Option HO → Prop
  | some (.lst _) => True
  | some (.dK _) => True
  | some (.dT _) => True
  | some (.set _ _) => True
  | some (.ins _ _ _) => True
  | some (.ext _) => True
  | _ => False
section
variable {P : Program} {w : World} {H : Hp} {h h' : Heap} {x e : Addr} {o' : HO}
theorem HOk.write (ok : HOk P w H h) (mu : Mut (H x)) (he : e = x ∨ H e = some (.own x)) (k : ∀ b u, b ≠ e → h.get? b = some u → h'.get? b = some u) (heo : ∃ u, h'.get? e = some u)
    (new : ObjOk P w (upd H x o') h' x o') : HOk P w (upd H x o') h' := fun b u q => by
  have nown : ∀ c y, H c = some (.own y) → c ≠ x := fun c y r z => by subst z; rw [r] at mu; exact mu
  have ntup : ∀ c xs, H c = some (.tup xs) → c ≠ x := fun c xs r z => by subst z; rw [r] at mu; exact mu
  by_cases hb : b = x
  · subst hb; rw [upd_same] at q; cases q; exact new
  · rw [upd_ne hb] at q
    by_cases hbe : b = e
    · have q' : H b = some (.own x) := by
        rcases he with z | z
        · exact absurd (hbe.trans z) hb
        · rw [hbe]; exact z
      rw [q] at q'; cases q'
      obtain ⟨v, hv⟩ := heo
      exact ⟨v, by rw [hbe]; exact hv⟩
    · refine (ok b u q).stay (fun c v hc r => k c v ?_ r) (fun c r => by rw [upd_ne (nown c b r)]; exact r) fun c xs r => by rw [upd_ne (ntup c xs r)]; exact r
      rcases hc with rfl | hc
      · exact hbe
      · rintro rfl
        rcases he with z | z
        · exact nown c b hc z
        · rw [hc] at z; cases z; exact hb rfl
end
structure Un (fs ex : List Addr) (H H' : Hp) (h h' : Heap) : Prop where
  keep : ∀ b o, h.get? b = some o → H b = none → b ∉ fs → b ∉ ex → h'.get? b = some o
  slot : ∀ b o, h.get? b = some o → H b = none → b ∈ fs → b ∉ ex → ∃ sl, h'.get? b = some { o with slots := sl }
  free : ∀ b o, h.get? b = some o → H b = none → b ∉ ex → H' b = none
  there : ∀ b o, h.get? b = some o → b ∉ ex → ∃ o', h'.get? b = some o'
  tups : ∀ b xs, H b = some (.tup xs) → H' b = some (.tup xs)
  frzs : ∀ b o u, H b = some (.frz o u) → H' b = some (.frz o u)
  tbls : ∀ b ps, H b = some (.tbl ps) → ∃ more, H' b = some (.tbl (ps ++ more))
section
variable {fs fs' ex ex' : List Addr} {H H1 H2 : Hp} {h h1 h2 h' : Heap} {a x e : Addr} {o : HO}
theorem Un.any (u : Un fs ex H H1 h h1) {b : Addr} {ob : Obj} (q : h.get? b = some ob) (n : H b = none) (hx : b ∉ ex) : ∃ sl, h1.get? b = some { ob with slots := sl } := by
  by_cases hb : b ∈ fs
  · exact u.slot b ob q n hb hx
  · exact ⟨ob.slots, u.keep b ob q n hb hx⟩
theorem Un.trans (a : Un fs ex H H1 h h1) (b : Un fs ex H1 H2 h1 h2) : Un fs ex H H2 h h2 where
  keep := fun c ob q n hc hx => b.keep c ob (a.keep c ob q n hc hx) (a.free c ob q n hx) hc hx
  slot := fun c ob q n hc hx => by
    obtain ⟨sl, e1⟩ := a.slot c ob q n hc hx
    obtain ⟨sl', e2⟩ := b.slot c _ e1 (a.free c ob q n hx) hc hx
    exact ⟨sl', e2⟩
  free := fun c ob q n hx => by
    obtain ⟨o', e1⟩ := a.there c ob q hx
    exact b.free c o' e1 (a.free c ob q n hx) hx
  there := fun c ob q hx => by
    obtain ⟨o', e1⟩ := a.there c ob q hx
    exact b.there c o' e1 hx
  tups := fun c xs q => b.tups c xs (a.tups c xs q)
  frzs := fun c ob xs q => b.frzs c ob xs (a.frzs c ob xs q)
  tbls := fun c ps q => by
    obtain ⟨m1, e1⟩ := a.tbls c ps q
    obtain ⟨m2, e2⟩ := b.tbls c _ e1
    exact ⟨m1 ++ m2, by rw [e2, Array.append_assoc]⟩
theorem Un.kept (k : ∀ b u, h.get? b = some u → h'.get? b = some u) : Un fs ex H H h h' :=
  ⟨fun b ob q _ _ _ => k b ob q, fun b ob q _ _ _ => ⟨ob.slots, k b ob q⟩, fun _ _ _ n _ => n, fun b ob q _ => ⟨ob, k b ob q⟩, fun _ _ q => q, fun _ _ _ q => q, fun _ ps q => ⟨#[], by rw [q]; simp⟩⟩
theorem Un.refl : Un fs ex H H h h := Un.kept fun _ _ q => q
theorem Un.laid (k : ∀ b u, h.get? b = some u → h'.get? b = some u) (hp : h.objs.size ≤ a) (hn : H a = none) : Un fs ex H (upd H a o) h h' where
  keep := fun b u q _ _ _ => k b u q
  slot := fun b u q _ _ _ => ⟨u.slots, k b u q⟩
  free := fun b u q n _ => by rw [upd_ne (Nat.ne_of_lt (Nat.lt_of_lt_of_le (Heap.lt_size q) hp))]; exact n
  there := fun b u q _ => ⟨u, k b u q⟩
  tups := fun b xs q => by rw [upd_ne (ne_of_none q hn)]; exact q
  frzs := fun b u xs q => by rw [upd_ne (ne_of_none q hn)]; exact q
  tbls := fun b ps q => ⟨#[], by rw [upd_ne (ne_of_none q hn), q]; simp⟩
theorem Un.write (mu : Mut (H x)) (he : e = x ∨ H e = some (.own x)) (k : ∀ b u, b ≠ e → h.get? b = some u → h'.get? b = some u) (heo : ∃ u, h'.get? e = some u) : Un fs ex H (upd H x o) h h' := by
  have hx : ∀ b, H b = none → b ≠ x := fun b n z => by subst z; rw [n] at mu; exact mu
  have hb : ∀ b, H b = none → b ≠ e := fun b n z => by
    subst z
    rcases he with r | r
    · exact hx b n r
    · rw [n] at r; cases r
  have hm : ∀ b u, H b = some u → ¬ Mut (some u) → b ≠ x := fun b u q nm z => by subst z; rw [q] at mu; exact nm mu
  refine ⟨fun b u q n _ _ => k b u (hb b n) q, fun b u q n _ _ => ⟨u.slots, k b u (hb b n) q⟩, fun b u q n _ => by rw [upd_ne (hx b n)]; exact n, fun b u q _ => ?_,
    fun b xs q => by rw [upd_ne (hm b _ q fun z => z)]; exact q, fun b u xs q => by rw [upd_ne (hm b _ q fun z => z)]; exact q, fun b ps q => ⟨#[], by rw [upd_ne (hm b _ q fun z => z), q]; simp⟩⟩
  by_cases hbe : b = e
  · subst hbe; exact heo
  · exact ⟨u, k b u hbe q⟩
theorem Un.mono (u : Un fs ex H H1 h h1) (hs : ∀ b ∈ fs, b ∈ fs') (hx : ∀ b ∈ ex, b ∈ ex') : Un fs' ex' H H1 h h1 :=
  ⟨fun b ob q n hb he => u.keep b ob q n (fun z => hb (hs b z)) fun z => he (hx b z), fun _ _ q n _ he => u.any q n fun z => he (hx _ z), fun b ob q n he => u.free b ob q n fun z => he (hx b z), fun b ob q he => u.there b ob q fun z => he (hx b z), u.tups, u.frzs, u.tbls⟩
end
def trk (h : Heap) (H : Hp) : List Addr := (List.range h.objs.size).filter fun a => (H a).isSome
def hidT (h : Heap) (H : Hp) : Heap := PySem.W.hideAll h (trk h H)
theorem hidT_size (h : Heap) (H : Hp) : (hidT h H).objs.size = h.objs.size := PySem.W.hideAll_size _ _
theorem hidT_get {h : Heap} {H : Hp} {b : Addr} {o : Obj} (e : h.get? b = some o) (n : H b = none) : (hidT h H).get? b = some o :=
  PySem.W.hideAll_get _ e fun hm => by
    have q : (H b).isSome = true := (List.mem_filter.mp hm).2
    rw [n] at q; simp at q
theorem of_hidT {h : Heap} {H : Hp} {b : Addr} {o : Obj} (e : (hidT h H).get? b = some o) : h.get? b = some o ∧ H b = none := by
  have e' : h.get? b = some o := PySem.W.of_hideAll (trk h H) e
  refine ⟨e', ?_⟩
  cases q : H b with
  | none => rfl
  | some x =>
    have hm : b ∈ trk h H := List.mem_filter.mpr ⟨List.mem_range.mpr (Heap.lt_size e'), by simp [q]⟩
    have z : (hidT h H).get? b = none := PySem.W.hideAll_none (trk h H) hm
    rw [z] at e; cases e
def allNews (g h : Heap) (L : Addr) : List (Addr × Obj) := (List.range h.objs.size).filterMap fun a => if a = L ∨ (g.get? a).isSome = true then none else (h.get? a).map fun o => (a, o)
def rest (g h : Heap) (L d : Addr) : List (Addr × Obj) := (allNews g h L).filter fun p => decide (p.1 ≠ d)
end L2
namespace L2
open PySem PySem.Spec PyProof.Rows
structure Mod (K : PySem.W.Frag) (mg : Str → Option Value) (base : Heap) : Prop where
  kin : K.In base
  glob : base.Ns mainGlobals mg
  blt : ∃ mb, base.Ns builtinsNs mb ∧ ∀ x : Str, x ≠ "__name__" → mb x = bootBuiltins x
  nolimit : base.NoLimit
structure Cx where
  prog : Program
  w : World
  K : PySem.W.Frag
  mg : Str → Option Value
  base : Heap
  A : Around
  N : List Str
  s₀ : Shared
  H₀ : Hp
  env : Env
  outer : List Env
  stack : List Env
  ex : List Addr
  fn : Str → Bool
  calm : Bool
  pn : List (Addr × Obj)
  xe : Value → Shared → Prop
def frs (l : List Env) : List Addr := l.filterMap (·.frame)
abbrev Cx.fs (X : Cx) : List Addr := frs X.outer
def Vis (sc : Scope) (x : Str) : Prop := sc.names.lookup x = some .local ∨ sc.names.lookup x = some .cell ∨ sc.names.lookup x = some .free
def Loc (sc : Scope) (x : Str) : Prop := sc.names.lookup x = some .local ∨ sc.names.lookup x = some .cell
def Look (env : Env) (h : Heap) (m : Str → Option Value) (x : Str) (u : Value) : Prop :=
  (env.kindOf x = some .local ∧ m x = some u) ∨ ((env.kindOf x = some .cell ∨ env.kindOf x = some .free) ∧ ∃ c, env.cells.lookup x = some c ∧ h.IsCell c (some u))
structure Cx.Ok (X : Cx) : Prop where
  mod : Mod X.K X.mg X.base
  kind : X.env.scope.kind = .function
  glob : X.env.globals = mainGlobals
  blt : X.env.builtins = builtinsNs
  above : X.s₀.heap.objs.size ≤ X.env.locals
  inj : ∀ x y c, X.env.cells.lookup x = some c → X.env.cells.lookup y = some c → x = y
  has : ∀ x, (X.env.kindOf x = some .cell ∨ X.env.kindOf x = some .free) → ∃ c, X.env.cells.lookup x = some c
  cab : ∀ x c, X.fn x = true → X.env.cells.lookup x = some c → X.s₀.heap.objs.size ≤ c
  hd : X.calm = true → X.A.handled = none
  frames : X.A.frames = some X.stack
  stk : X.stack = X.outer ∨ (X.stack = X.env :: X.outer ∧ X.env.frame = some X.env.locals)
  exf : ∀ b ∈ X.ex, b ≠ X.env.locals ∧ ∀ x c, X.env.cells.lookup x = some c → c ≠ b
  bs : ∀ b o, X.base.get? b = some o → X.s₀.heap.get? b = some o ∧ X.H₀ b = none
  bsz : X.base.objs.size ≤ X.s₀.heap.objs.size
  noex : ∀ b o, X.base.get? b = some o → b ∉ X.ex
  exfs : ∀ b ∈ X.ex, b ∉ X.fs
  funs : X.s₀.heap.FunFrames X.base X.outer
  frf : ∀ b ∈ X.fs, X.H₀ b = none
structure Inv (X : Cx) (pins : List (Addr × Obj)) (σ : List (Option V)) (H : Hp) (s : Shared) : Prop where
  ok : X.Ok
  os : s.os = X.s₀.os
  bare : AllBare s.gens
  base : Un X.fs X.ex X.H₀ H X.s₀.heap s.heap
  loc : ∃ m, s.heap.Ns X.env.locals m ∧ ∀ (i : Nat) (x : Str) (v : V), X.N[i]? = some x → σ[i]? = some (some v) → Vis X.env.scope x → ∃ u, RelV v u ∧ Look X.env s.heap m x u
  cell : ∀ x c, X.env.cells.lookup x = some c → ∃ v, s.heap.IsCell c v
  free : H X.env.locals = none
  freeC : ∀ x c, X.env.cells.lookup x = some c → H c = none
  pin : ∀ p ∈ X.pn ++ pins, s.heap.get? p.1 = some p.2 ∧ H p.1 = none ∧ p.1 ≠ X.env.locals ∧ p.1 ∉ X.fs ∧ ∀ v, p.2.data ≠ .cell v
  hok : HOk X.prog X.w H s.heap
  len : σ.length = X.N.length
section
variable {X : Cx} {pins : List (Addr × Obj)} {σ : List (Option V)} {H H' : Hp} {s : Shared} {h' : Heap}
theorem Cx.Ok.nofr (ok : X.Ok) {b : Addr} {o : Obj} (e : X.base.get? b = some o) : b ∉ X.fs := fun hb => by
  have := (ok.funs.mem hb).1
  rw [e] at this; cases this
theorem Inv.bs (I : Inv X pins σ H s) : ∀ b o, X.base.get? b = some o → s.heap.get? b = some o ∧ H b = none := fun b o e =>
  ⟨I.base.keep b o (I.ok.bs b o e).1 (I.ok.bs b o e).2 (I.ok.nofr e) (I.ok.noex b o e), I.base.free b o (I.ok.bs b o e).1 (I.ok.bs b o e).2 (I.ok.noex b o e)⟩
theorem Inv.bk (I : Inv X pins σ H s) : ∀ b o, X.base.get? b = some o → s.heap.get? b = some o := fun b o e => (I.bs b o e).1
theorem Inv.mod (I : Inv X pins σ H s) : Mod X.K X.mg X.base := I.ok.mod
theorem Inv.kIn (I : Inv X pins σ H s) : X.K.In s.heap := I.ok.mod.kin.keeps I.bk
theorem Inv.nolimit (I : Inv X pins σ H s) : s.heap.NoLimit := I.ok.mod.nolimit.keeps I.bk
theorem Inv.fr (I : Inv X pins σ H s) : ∃ m, Fr X.base X.env.locals s.heap m :=
  let ⟨m, hn, _⟩ := I.loc
  ⟨m, hn, I.bk, Nat.le_trans I.ok.bsz I.ok.above⟩
theorem Inv.lt (I : Inv X pins σ H s) : X.env.locals < s.heap.objs.size := let ⟨_, hn, _⟩ := I.loc; hn.lt
theorem Inv.sz (I : Inv X pins σ H s) : X.s₀.heap.objs.size ≤ s.heap.objs.size := Nat.le_trans I.ok.above (Nat.le_of_lt I.lt)
theorem Inv.nofs (I : Inv X pins σ H s) {a : Addr} (h : s.heap.objs.size ≤ a) : a ∉ X.fs := fun hb => by
  obtain ⟨_, o, ho, _⟩ := I.ok.funs.mem hb
  exact absurd (Nat.lt_of_lt_of_le (Heap.lt_size ho) (Nat.le_trans I.sz h)) (Nat.lt_irrefl _)
theorem Inv.cne (I : Inv X pins σ H s) : ∀ x c, X.env.cells.lookup x = some c → c ≠ X.env.locals := fun x c e z => by
  obtain ⟨v, o, ho, hd⟩ := I.cell x c e
  obtain ⟨m, ⟨o', es, ep, ho', hd', _⟩, _⟩ := I.loc
  rw [z, ho'] at ho; cases ho; rw [hd'] at hd; cases hd
theorem Inv.funs (I : Inv X pins σ H s) : s.heap.FunFrames X.base X.outer := by
  have all : ∀ (l : List Env), (∀ b ∈ frs l, b ∈ X.fs) → X.s₀.heap.FunFrames X.base l → s.heap.FunFrames X.base l := by
    intro l
    induction l with
    | nil => intro _ _; trivial
    | cons env r ih =>
      intro hs hl
      obtain ⟨hk, ⟨L, o, hf, hn, ho, hd⟩, hr⟩ := hl
      have hL : L ∈ X.fs := hs L (by unfold frs; rw [List.filterMap_cons, hf]; exact List.mem_cons_self)
      obtain ⟨sl, e⟩ := I.base.slot L o ho (I.ok.frf L hL) hL fun z => I.ok.exfs L z hL
      exact ⟨hk, ⟨L, _, hf, hn, e, hd⟩, ih (fun b hb => hs b (by unfold frs; rw [List.filterMap_cons, hf]; exact List.mem_cons_of_mem _ hb)) hr⟩
  exact all X.outer (fun _ hb => hb) I.ok.funs
theorem Inv.stack (I : Inv X pins σ H s) : s.heap.FunFrames X.base X.stack := by
  rcases I.ok.stk with e | ⟨e, hf⟩
  · rw [e]; exact I.funs
  · rw [e]
    obtain ⟨m, hn, _⟩ := I.loc
    refine .cons (by rw [I.ok.kind]; decide) hf hn ?_ I.funs
    exact Heap.get?_none_of_le (Nat.le_trans I.ok.bsz I.ok.above)
theorem Inv.stkSub (I : Inv X pins σ H s) : ∀ b ∈ frs X.stack, b ∈ X.env.locals :: X.fs := fun b hb => by
  rcases I.ok.stk with e | ⟨e, hf⟩
  · rw [e] at hb; exact List.mem_cons_of_mem _ hb
  · rw [e] at hb
    unfold frs at hb
    rw [List.filterMap_cons, hf] at hb
    exact hb
theorem Inv.stkFree (I : Inv X pins σ H s) : ∀ b ∈ frs X.stack, H b = none := fun b hb => by
  rcases List.mem_cons.mp (I.stkSub b hb) with e | hb
  · rw [e]; exact I.free
  · obtain ⟨_, o, ho, _⟩ := I.ok.funs.mem hb
    exact I.base.free b o ho (I.ok.frf b hb) fun z => I.ok.exfs b z hb
theorem Inv.step {g' : Array GenState} {t' : Nat} {d' : Drawn} {ch : List Addr} (I : Inv X pins σ H s)
    (hch : ∀ b ∈ ch, (b ∈ X.ex ∨ X.s₀.heap.objs.size ≤ b) ∧ b ≠ X.env.locals ∧ (∀ x c, X.env.cells.lookup x = some c → c ≠ b) ∧ ∀ p ∈ X.pn ++ pins, p.1 ≠ b)
    (keep : ∀ b o, b ≠ X.env.locals → b ∉ X.fs → b ∉ ch → s.heap.get? b = some o → H b = none → h'.get? b = some o)
    (slot : ∀ b o, b ≠ X.env.locals → b ∈ X.fs → b ∉ ch → s.heap.get? b = some o → H b = none → ∃ sl, h'.get? b = some { o with slots := sl }) (free : ∀ b o, b ∉ ch → s.heap.get? b = some o → H b = none → H' b = none)
    (there : ∀ b o, b ∉ ch → s.heap.get? b = some o → ∃ o', h'.get? b = some o')
    (tups : ∀ b xs, H b = some (.tup xs) → H' b = some (.tup xs)) (frzs : ∀ b o u, H b = some (.frz o u) → H' b = some (.frz o u)) (tbls : ∀ b ps, H b = some (.tbl ps) → ∃ more, H' b = some (.tbl (ps ++ more)))
    (ns : ∀ m, s.heap.Ns X.env.locals m → h'.Ns X.env.locals m) (hok : HOk X.prog X.w H' h') (hg : AllBare g') :
    Inv X pins σ H' { s with heap := h', gens := g', drawn := d', toks := t' } := by
  have neL : ∀ b o, X.s₀.heap.get? b = some o → b ≠ X.env.locals := fun b o e => Nat.ne_of_lt (Nat.lt_of_lt_of_le (Heap.lt_size e) I.ok.above)
  have neC : ∀ b o, X.s₀.heap.get? b = some o → b ∉ X.ex → b ∉ ch := fun b o e hx hb => by
    rcases (hch b hb).1 with z | z
    · exact hx z
    · exact absurd (Nat.lt_of_lt_of_le (Heap.lt_size e) z) (Nat.lt_irrefl _)
  have cellK : ∀ x c, X.env.cells.lookup x = some c → ∀ v, s.heap.IsCell c v → h'.IsCell c v := fun x c e v ⟨o, ho, hd⟩ => by
    have nch : c ∉ ch := fun z => (hch c z).2.2.1 x c e rfl
    by_cases hc : c ∈ X.fs
    · obtain ⟨sl, q⟩ := slot c o (I.cne x c e) hc nch ho (I.freeC x c e)
      exact ⟨_, q, hd⟩
    · exact ⟨o, keep c o (I.cne x c e) hc nch ho (I.freeC x c e), hd⟩
  refine ⟨I.ok, I.os, hg, ⟨fun b o e n hb hx => ?_, fun b o e n hb hx => ?_, fun b o e n hx => ?_, fun b o e hx => ?_, fun b xs e => tups b xs (I.base.tups b xs e), fun b o xs e => frzs b o xs (I.base.frzs b o xs e), fun b ps e => ?_⟩, ?_, fun x c e => ?_, ?_, fun x c e => ?_, fun p hp => ?_, hok, I.len⟩
  · exact keep b o (neL b o e) hb (neC b o e hx) (I.base.keep b o e n hb hx) (I.base.free b o e n hx)
  · obtain ⟨sl, e1⟩ := I.base.slot b o e n hb hx
    obtain ⟨sl', e2⟩ := slot b _ (neL b o e) hb (neC b o e hx) e1 (I.base.free b o e n hx)
    exact ⟨sl', e2⟩
  · obtain ⟨o', e1⟩ := I.base.there b o e hx
    exact free b o' (neC b o e hx) e1 (I.base.free b o e n hx)
  · obtain ⟨o', e1⟩ := I.base.there b o e hx
    exact there b o' (neC b o e hx) e1
  · obtain ⟨m1, e1⟩ := I.base.tbls b ps e
    obtain ⟨m2, e2⟩ := tbls b _ e1
    exact ⟨m1 ++ m2, by rw [e2, Array.append_assoc]⟩
  · obtain ⟨m, hn, hl⟩ := I.loc
    refine ⟨m, ns m hn, fun i x v e1 e2 e3 => ?_⟩
    obtain ⟨u, r, l⟩ := hl i x v e1 e2 e3
    refine ⟨u, r, ?_⟩
    rcases l with l | ⟨k, c, e, z⟩
    · exact .inl l
    · exact .inr ⟨k, c, e, cellK x c e _ z⟩
  · obtain ⟨v, z⟩ := I.cell x c e
    exact ⟨v, cellK x c e v z⟩
  · obtain ⟨m, ⟨o, _, _, ho, _⟩, _⟩ := I.loc
    exact free _ o (fun z => (hch _ z).2.1 rfl) ho I.free
  · obtain ⟨v, o, ho, hd⟩ := I.cell x c e
    exact free c o (fun z => (hch c z).2.2.1 x c e rfl) ho (I.freeC x c e)
  · obtain ⟨e, n, ne, nf, d⟩ := I.pin p hp
    have nch : p.1 ∉ ch := fun z => (hch p.1 z).2.2.2 p hp rfl
    exact ⟨keep p.1 p.2 ne nf nch e n, free p.1 p.2 nch e n, ne, nf, d⟩
theorem Inv.un {t' : Nat} (I : Inv X pins σ H s) (u : Un X.fs [] H H' s.heap h') (hok : HOk X.prog X.w H' h') : Inv X pins σ H' { s with heap := h', toks := t' } := by
  obtain ⟨m, ⟨o, es, ep, ho, r⟩, _⟩ := id I.loc
  obtain ⟨sl, hL⟩ := u.any ho I.free (by simp)
  exact I.step (g' := s.gens) (d' := s.drawn) (ch := []) (fun _ z => nomatch z) (fun b o _ hb _ e n => u.keep b o e n hb (by simp)) (fun b o _ hb _ e n => u.slot b o e n hb (by simp)) (fun b o _ e n => u.free b o e n (by simp)) (fun b o _ e => u.there b o e (by simp)) u.tups u.frzs u.tbls (fun m' hm => by
    obtain ⟨o', es', ep', ho', r'⟩ := hm
    rw [ho] at ho'; cases ho'
    exact ⟨_, es', ep', hL, r'⟩) hok I.bare
theorem Inv.call {g' : Array GenState} {t' : Nat} {d' : Drawn} {ch : List Addr} (I : Inv X pins σ H s) (u : Un (frs X.stack) ch H H' s.heap h') (hok : HOk X.prog X.w H' h') (hg : AllBare g')
    (hch : ∀ b ∈ ch, (b ∈ X.ex ∨ X.s₀.heap.objs.size ≤ b) ∧ b ≠ X.env.locals ∧ (∀ x c, X.env.cells.lookup x = some c → c ≠ b) ∧ ∀ p ∈ X.pn ++ pins, p.1 ≠ b) :
    Inv X pins σ H' { s with heap := h', gens := g', drawn := d', toks := t' } := by
  obtain ⟨m, ⟨o, es, ep, ho, r⟩, _⟩ := id I.loc
  obtain ⟨sl, hL⟩ := u.any ho I.free fun z => (hch _ z).2.1 rfl
  exact I.step (ch := ch) hch (fun b o hL hb hc e n => u.keep b o e n (fun z => (List.mem_cons.mp (I.stkSub b z)).elim hL hb) hc) (fun b o _ _ hc e n => u.any e n hc) (fun b o hc e n => u.free b o e n hc) (fun b o hc e => u.there b o e hc) u.tups u.frzs u.tbls (fun m' hm => by
    obtain ⟨o', es', ep', ho', r'⟩ := hm
    rw [ho] at ho'; cases ho'
    exact ⟨_, es', ep', hL, r'⟩) hok hg
theorem Inv.turned {t' : Nat} {it : Addr} (I : Inv X pins σ H s) (k : ∀ b o, b ≠ it → s.heap.get? b = some o → h'.get? b = some o) (hn : H it = none) (hL : it ≠ X.env.locals)
    (h1 : it ∈ X.ex ∨ X.s₀.heap.objs.size ≤ it) (h2 : ∀ x c, X.env.cells.lookup x = some c → c ≠ it) (h3 : ∀ p ∈ X.pn ++ pins, p.1 ≠ it) : Inv X pins σ H { s with heap := h', toks := t' } := by
  have nit : ∀ b u, H b = some u → b ≠ it := fun b u e z => by rw [z, hn] at e; cases e
  refine I.step (g' := s.gens) (d' := s.drawn) (ch := [it]) (fun b hb => ?_) (fun b o _ _ hc e _ => k b o (fun z => hc (by simp [z])) e) (fun b o _ _ hc e _ => ⟨o.slots, k b o (fun z => hc (by simp [z])) e⟩) (fun _ _ _ _ n => n)
    (fun b o hc e => ⟨o, k b o (fun z => hc (by simp [z])) e⟩) (fun _ _ e => e) (fun _ _ _ e => e) (fun b ps e => ⟨#[], by rw [e]; simp⟩) (fun m hm => ?_) (fun b u e => ?_) I.bare
  · have e : b = it := by simpa using hb
    subst e
    exact ⟨h1, hL, h2, h3⟩
  · obtain ⟨o, es, ep, ho, r⟩ := hm
    exact ⟨o, es, ep, k _ o (Ne.symm hL) ho, r⟩
  · refine (I.hok b u e).stay (fun c v hc q => k c v ?_ q) (fun _ q => q) fun _ _ q => q
    rcases hc with z | z
    · rw [z]; exact nit b u e
    · exact nit c _ z
theorem Inv.tok (I : Inv X pins σ H s) (t : Nat) : Inv X pins σ H { s with toks := t } := I.un (h' := s.heap) (t' := t) Un.refl I.hok
theorem Inv.kept {t' : Nat} (I : Inv X pins σ H s) (k : ∀ b u, s.heap.get? b = some u → h'.get? b = some u) : Inv X pins σ H { s with heap := h', toks := t' } := I.un (Un.kept k) (I.hok.kept k)
theorem Inv.laid {a : Addr} {o : HO} {t' : Nat} (I : Inv X pins σ H s) (k : ∀ b u, s.heap.get? b = some u → h'.get? b = some u) (hp : s.heap.objs.size ≤ a) (new : ObjOk X.prog X.w (upd H a o) h' a o) :
    Inv X pins σ (upd H a o) { s with heap := h', toks := t' } := I.un (Un.laid k hp (I.hok.fresh hp)) (I.hok.laid k hp new)
theorem Inv.write {x e : Addr} {o : HO} {t' : Nat} (I : Inv X pins σ H s) (mu : Mut (H x)) (he : e = x ∨ H e = some (.own x)) (k : ∀ b u, b ≠ e → s.heap.get? b = some u → h'.get? b = some u) (heo : ∃ u, h'.get? e = some u)
    (new : ObjOk X.prog X.w (upd H x o) h' x o) : Inv X pins σ (upd H x o) { s with heap := h', toks := t' } := I.un (Un.write mu he k heo) (I.hok.write mu he k heo new)
theorem Inv.weak {σ' : List (Option V)} (I : Inv X pins σ H s) (hl : σ'.length = σ.length) (w : ∀ (i : Nat) v, σ'[i]? = some (some v) → σ[i]? = some (some v)) : Inv X pins σ' H s :=
  ⟨I.ok, I.os, I.bare, I.base, let ⟨m, hn, hl'⟩ := I.loc; ⟨m, hn, fun i x v e1 e2 e3 => hl' i x v e1 (w i v e2) e3⟩, I.cell, I.free, I.freeC, I.pin, I.hok, hl.trans I.len⟩
theorem Inv.pins_of {pins' : List (Addr × Obj)} (I : Inv X pins σ H s) (h : ∀ p ∈ pins', s.heap.get? p.1 = some p.2 ∧ H p.1 = none ∧ p.1 ≠ X.env.locals ∧ p.1 ∉ X.fs ∧ ∀ v, p.2.data ≠ .cell v) : Inv X pins' σ H s :=
  ⟨I.ok, I.os, I.bare, I.base, I.loc, I.cell, I.free, I.freeC, fun p hp => (List.mem_append.mp hp).elim (fun z => I.pin p (List.mem_append_left _ z)) (h p), I.hok, I.len⟩
theorem nodup_ix {N : List Str} (hN : N.Nodup) {i j : Nat} {x : Str} (a : N[i]? = some x) (b : N[j]? = some x) : i = j := by
  obtain ⟨h1, e1⟩ := List.getElem?_eq_some_iff.mp a
  obtain ⟨h2, e2⟩ := List.getElem?_eq_some_iff.mp b
  exact (List.getElem_inj hN).mp (e1.trans e2.symm)
theorem store_ok2 {M : Model} {A : Around} {E : Value → Shared → Prop} {i : Nat} {x : Str} {v : V} {u : Value} {Q : Unit → Shared → Prop} (I : Inv X pins σ H s) (hN : X.N.Nodup) (hi : X.N[i]? = some x) (hx : Loc X.env.scope x) (r : RelV v u)
    (h : ∀ s', Inv X pins (σ.set i (some v)) H s' → (∃ a, Heap.SameBut a s.heap s'.heap ∧ (a = X.env.locals ∨ X.env.cells.lookup x = some a)) → Q () s') (hf : X.fn x = true ∨ X.env.scope.names.lookup x = some .local := by first | exact .inl rfl | exact .inr rfl | assumption) : wpAny M A (storeName X.env x u) Q E s := by
  obtain ⟨m, hn, hl⟩ := id I.loc
  have hcls : (X.env.scope.kind == .class || (X.env.scope.kind == .module && X.env.locals != X.env.globals)) = false := by rw [I.ok.kind]; rfl
  have hiσ : i < σ.length := by rw [I.len]; exact (List.getElem?_eq_some_iff.mp hi).1
  have cne := I.cne
  have tracked : ∀ {a : Addr} {h' : Heap}, (∃ o, s.heap.get? a = some o ∧ H a = none) → Heap.SameBut a s.heap h' → HOk X.prog X.w H h' := fun {a h'} ha hs b ob e => by
    obtain ⟨_, _, hfree⟩ := ha
    refine (I.hok b ob e).stay (fun c w' hc q => (hs.2 c ?_).trans q) (fun _ q => q) fun _ _ q => q
    rintro rfl
    rcases hc with rfl | hc
    · rw [hfree] at e; cases e
    · rw [hfree] at hc; cases hc
  rcases hx with hk | hk
  · refine wpAny_storeName_local hk hn (fun h' hn' hs => ?_) hcls
    obtain ⟨oL, _, _, hoL, _⟩ := id hn
    refine h _ ⟨I.ok, I.os, I.bare, ⟨fun b o e n hb hx => ?_, fun b o e n hb hx => ?_, I.base.free, fun b o e hx => ?_, I.base.tups, I.base.frzs, I.base.tbls⟩, ⟨_, hn', fun j y v' e1 e2 e3 => ?_⟩, fun y c e => ?_, I.free, I.freeC, fun p hp => ?_, tracked ⟨oL, hoL, I.free⟩ hs, by simpa using I.len⟩ ⟨_, hs, .inl rfl⟩
    · exact (hs.2 b (Nat.ne_of_lt (Nat.lt_of_lt_of_le (Heap.lt_size e) I.ok.above))).trans (I.base.keep b o e n hb hx)
    · obtain ⟨sl, e1⟩ := I.base.slot b o e n hb hx
      exact ⟨sl, (hs.2 b (Nat.ne_of_lt (Nat.lt_of_lt_of_le (Heap.lt_size e) I.ok.above))).trans e1⟩
    · obtain ⟨o', e1⟩ := I.base.there b o e hx
      exact ⟨o', (hs.2 b (Nat.ne_of_lt (Nat.lt_of_lt_of_le (Heap.lt_size e) I.ok.above))).trans e1⟩
    · by_cases hj : j = i
      · subst hj
        rw [hi] at e1; cases e1
        rw [List.getElem?_set_self hiσ] at e2
        cases e2
        exact ⟨u, r, .inl ⟨hk, by simp⟩⟩
      · rw [List.getElem?_set_ne (Ne.symm hj)] at e2
        obtain ⟨u', r', q⟩ := hl j y v' e1 e2 e3
        refine ⟨u', r', ?_⟩
        rcases q with ⟨k, e⟩ | ⟨k, c, e, z⟩
        · refine .inl ⟨k, ?_⟩
          have : y ≠ x := fun e => hj (nodup_ix hN e1 (e ▸ hi))
          simp [this, e]
        · exact .inr ⟨k, c, e, z.sameBut hs (cne y c e)⟩
    · obtain ⟨w', z⟩ := I.cell y c e
      exact ⟨w', z.sameBut hs (cne y c e)⟩
    · obtain ⟨e, n, ne, nf, d⟩ := I.pin p hp
      exact ⟨(hs.2 p.1 ne).trans e, n, ne, nf, d⟩
  · have hfn : X.fn x = true := by
      rcases hf with z | z
      · exact z
      · rw [z] at hk; cases hk
    obtain ⟨c, hc⟩ := I.ok.has x (.inl hk)
    obtain ⟨w', z⟩ := I.cell x c hc
    refine wpAny_storeName_cell I.ok.kind hk hc z (fun h' hc' hs => ?_)
    obtain ⟨oc, hoc, hocd⟩ := id z
    refine h { s with heap := h' } ⟨I.ok, I.os, I.bare, ⟨fun b o e n hb hx => ?_, fun b o e n hb hx => ?_, I.base.free, fun b o e hx => ?_, I.base.tups, I.base.frzs, I.base.tbls⟩, ⟨m, hn.sameBut hs (Ne.symm (cne x c hc)), fun j y v' e1 e2 e3 => ?_⟩, fun y c' e => ?_, I.free, I.freeC, fun p hp => ?_, tracked ⟨oc, hoc, I.freeC x c hc⟩ hs, by simpa using I.len⟩ ⟨c, hs, .inr hc⟩
    · exact (hs.2 b (Nat.ne_of_lt (Nat.lt_of_lt_of_le (Heap.lt_size e) (I.ok.cab x c hfn hc)))).trans (I.base.keep b o e n hb hx)
    · obtain ⟨sl, e1⟩ := I.base.slot b o e n hb hx
      exact ⟨sl, (hs.2 b (Nat.ne_of_lt (Nat.lt_of_lt_of_le (Heap.lt_size e) (I.ok.cab x c hfn hc)))).trans e1⟩
    · obtain ⟨o', e1⟩ := I.base.there b o e hx
      exact ⟨o', (hs.2 b (Nat.ne_of_lt (Nat.lt_of_lt_of_le (Heap.lt_size e) (I.ok.cab x c hfn hc)))).trans e1⟩
    · by_cases hj : j = i
      · subst hj
        rw [hi] at e1; cases e1
        rw [List.getElem?_set_self hiσ] at e2
        cases e2
        exact ⟨u, r, .inr ⟨.inl hk, c, hc, hc'⟩⟩
      · rw [List.getElem?_set_ne (Ne.symm hj)] at e2
        obtain ⟨u', r', q⟩ := hl j y v' e1 e2 e3
        refine ⟨u', r', ?_⟩
        rcases q with q | ⟨k, c', e, z'⟩
        · exact .inl q
        · refine .inr ⟨k, c', e, z'.sameBut hs ?_⟩
          rintro rfl
          exact hj (nodup_ix hN e1 (I.ok.inj _ _ _ e hc ▸ hi))
    · by_cases hcc : c' = c
      · subst hcc; exact ⟨_, hc'⟩
      · obtain ⟨w2, z2⟩ := I.cell y c' e
        exact ⟨w2, z2.sameBut hs hcc⟩
    · obtain ⟨e, n, ne, nf, d⟩ := I.pin p hp
      refine ⟨(hs.2 p.1 ?_).trans e, n, ne, nf, d⟩
      intro q
      rw [q, hoc] at e
      have q' : oc = p.2 := Option.some.inj e
      exact d w' (by rw [← q']; exact hocd)
theorem store_ok {M : Model} {A : Around} {E : Value → Shared → Prop} {i : Nat} {x : Str} {v : V} {u : Value} {Q : Unit → Shared → Prop} (I : Inv X pins σ H s) (hN : X.N.Nodup) (hi : X.N[i]? = some x) (hx : Loc X.env.scope x) (r : RelV v u)
    (h : ∀ s', Inv X pins (σ.set i (some v)) H s' → Q () s') (hf : X.fn x = true ∨ X.env.scope.names.lookup x = some .local := by first | exact .inl rfl | exact .inr rfl | assumption) : wpAny M A (storeName X.env x u) Q E s :=
  store_ok2 I hN hi hx r (fun s' I' _ => h s' I') hf
theorem Inv.call' {s' : Shared} {ch : List Addr} (I : Inv X pins σ H s) (ho : s'.os = s.os) (u : Un (frs X.stack) ch H H' s.heap s'.heap) (hok : HOk X.prog X.w H' s'.heap) (hg : AllBare s'.gens)
    (hch : ∀ b ∈ ch, (b ∈ X.ex ∨ X.s₀.heap.objs.size ≤ b) ∧ b ≠ X.env.locals ∧ (∀ x c, X.env.cells.lookup x = some c → c ≠ b) ∧ ∀ p ∈ X.pn ++ pins, p.1 ≠ b) : Inv X pins σ H' s' := by
  obtain ⟨h', g', d', t', o'⟩ := s'
  have e : o' = s.os := ho
  subst e
  exact I.call (g' := g') (t' := t') (d' := d') u hok hg hch
end
abbrev XK := Value → Option Addr → Hp → Prop
abbrev St := List (Option V)
abbrev VK := V → Hp → Prop
abbrev TE := St → Hp → VK → Prop
abbrev TT := St → Hp → (Bool → Hp → Prop) → Prop
abbrev TA := St → Hp → (List V → Hp → Prop) → Prop
structure Ends where
  nx : St → Hp → Prop
  rt : VK
  bk : St → Hp → Prop := fun _ _ => False
  ct : St → Hp → Prop := fun _ _ => False
abbrev TS := Ends → St → Hp → Prop
def EP (X : Cx) (pins : List (Addr × Obj)) (σ : St) (Q : VK) (u : Value) (s' : Shared) : Prop := ∃ v H', Inv X pins σ H' s' ∧ RelV v u ∧ Q v H'
def TP (X : Cx) (pins : List (Addr × Obj)) (σ : St) (Q : Bool → Hp → Prop) (b : Bool) (s' : Shared) : Prop := ∃ H', Inv X pins σ H' s' ∧ Q b H'
def AP (X : Cx) (pins : List (Addr × Obj)) (σ : St) (Q : List V → Hp → Prop) (us : List Value) (s' : Shared) : Prop := ∃ vs H', Inv X pins σ H' s' ∧ Vals vs us ∧ Q vs H'
def SP (X : Cx) (pins : List (Addr × Obj)) (D : Ends) (f : Flow) (s' : Shared) : Prop :=
  match f with
  | .next => ∃ σ' H', Inv X pins σ' H' s' ∧ D.nx σ' H'
  | .brk => ∃ σ' H', Inv X pins σ' H' s' ∧ D.bk σ' H'
  | .cont => ∃ σ' H', Inv X pins σ' H' s' ∧ D.ct σ' H'
  | .ret u => ∃ v σ' H', Inv X pins σ' H' s' ∧ RelV v u ∧ D.rt v H'
def PE (X : Cx) (e : Expr) (t : TE) : Prop :=
  ∀ (pins : List (Addr × Obj)) (s : Shared) (σ : St) (H : Hp) (Q : VK), Inv X pins σ H s → t σ H Q → wpAny (model X.prog X.w) X.A (eval e X.env) (EP X pins σ Q) X.xe s
def PT (X : Cx) (e : Expr) (t : TT) : Prop :=
  ∀ (pins : List (Addr × Obj)) (s : Shared) (σ : St) (H : Hp) (Q : Bool → Hp → Prop), Inv X pins σ H s → t σ H Q → wpAny (model X.prog X.w) X.A (isTrue e X.env (eval e X.env)) (TP X pins σ Q) X.xe s
def PW (X : Cx) (e : Expr) (t : TT) : Prop :=
  ∀ (whole : Sem Value) (pins : List (Addr × Obj)) (s : Shared) (σ : St) (H : Hp) (Q : Bool → Hp → Prop), Inv X pins σ H s → t σ H Q → wpAny (model X.prog X.w) X.A (isTrue e X.env whole) (TP X pins σ Q) X.xe s
theorem PW.pt {X : Cx} {e : Expr} {t : TT} (h : PW X e t) : PT X e t := h _
def PA (X : Cx) (es : List Expr) (t : TA) : Prop :=
  ∀ (pos : Pos) (pins : List (Addr × Obj)) (s : Shared) (σ : St) (H : Hp) (Q : List V → Hp → Prop), Inv X pins σ H s → t σ H Q → wpAny (model X.prog X.w) X.A (spliced (backTo pos (starEach es X.env))) (AP X pins σ Q) X.xe s
def PS (X : Cx) (st : Stmt) (t : TS) : Prop :=
  ∀ (pins : List (Addr × Obj)) (s : Shared) (σ : St) (H : Hp) (D : Ends), Inv X pins σ H s → t D σ H → wpAny (model X.prog X.w) X.A (exec st X.env) (SP X pins D) X.xe s
def PSs (X : Cx) (st : List Stmt) (t : TS) : Prop :=
  ∀ (pins : List (Addr × Obj)) (s : Shared) (σ : St) (H : Hp) (D : Ends), Inv X pins σ H s → t D σ H → wpAny (model X.prog X.w) X.A (execs st X.env) (SP X pins D) X.xe s
theorem thn {α : Type} {t : Sem α} {Q Q' : α → Shared → Prop} {M : Model} {A : Around} {E : Value → Shared → Prop} {s : Shared} (h : wpAny M A t Q E s) (hQ : ∀ a s, Q a s → Q' a s) : wpAny M A t Q' E s := wpAny_mono h hQ fun _ _ x => x
end L2
namespace L2
open PySem PySem.Spec PyProof.Rows
section
variable {X : Cx}
theorem bin {a b : Expr} {ta tb : TE} (ha : PE X a ta) (hb : PE X b tb) {pins : List (Addr × Obj)} {s : Shared} {σ : St} {H : Hp} {R : V → V → Hp → Prop} (I : Inv X pins σ H s) (h : ta σ H fun x H1 => tb σ H1 fun y H2 => R x y H2)
    {α : Type} {Q : α → Shared → Prop} {f : Value → Value → Sem α}
    (hf : ∀ v u s2 x y H2, Inv X pins σ H2 s2 → RelV x v → RelV y u → R x y H2 → wpAny (model X.prog X.w) X.A (f v u) Q X.xe s2) :
    wpAny (model X.prog X.w) X.A (eval a X.env) (fun v s₁ => wpAny (model X.prog X.w) X.A (eval b X.env) (fun u s₂ => wpAny (model X.prog X.w) X.A (f v u) Q X.xe s₂) X.xe s₁) X.xe s := by
  refine thn (ha pins s σ H _ I h) fun v s1 ⟨x, H1, I1, r1, q1⟩ => ?_
  refine thn (hb pins s1 σ H1 _ I1 q1) fun u s2 ⟨y, H2, I2, r2, q2⟩ => ?_
  exact hf v u s2 x y H2 I2 r1 r2 q2
def tVar (i : Nat) : TE := fun σ H Q => ∃ v, σ[i]? = some (some v) ∧ Q v H
def tC (v : V) : TE := fun _ H Q => Q v H
theorem pe_var {i : Nat} {x : Str} {pos : Pos} (hN : X.N[i]? = some x) (hv : Vis X.env.scope x) (hd : (x == ("__debug__" : Str)) = false := by decide) (hcd : (x == ("__classdict__" : Str)) = false := by decide) : PE X (.Name x pos) (tVar i) := by
  intro pins s σ H Q I h
  obtain ⟨v, e, h⟩ := h
  obtain ⟨m, hn, hl⟩ := I.loc
  obtain ⟨u, r, l⟩ := hl i x v hN e hv
  have fin : EP X pins σ Q u s := ⟨v, H, I, r, h⟩
  rcases l with ⟨hk, hm⟩ | ⟨hk, c, hc, hcell⟩
  · exact wpAny_Name (wpAny_loadName_local I.ok.kind hk hn hm fin) hd
  · rcases hk with hk | hk
    · exact wpAny_Name (wpAny_loadName_cell I.ok.kind hk hc hcell fin) hd
    · exact wpAny_Name (wpAny_loadName_free I.ok.kind hk hc hcell fin hcd) hd
theorem pe_int {i j pos} : PE X (.Constant (.int i) j pos) (tC (.int i)) := fun _ _ _ H _ I h => wpAny_Constant_int ⟨.int i, H, I.tok _, ⟨_, rfl⟩, h⟩
theorem pe_bl {b j pos} : PE X (.Constant (.bool b) j pos) (tC (.bl b)) := fun _ _ _ H _ I h => Constant_bool ⟨.bl b, H, I, rfl, h⟩
theorem pe_non {j pos} : PE X (.Constant .none j pos) (tC .non) := fun _ _ _ H _ I h => Constant_none ⟨.non, H, I, rfl, h⟩
theorem pe_str {x j pos} : PE X (.Constant (.str x) j pos) (tC (.str x)) := fun _ _ _ H _ I h => Calls.Constant_str ⟨.str x, H, I.tok _, ⟨_, rfl⟩, h⟩
def Gl (X : Cx) (x : Str) : Prop := X.env.kindOf x = some .globalImplicit
theorem ld_glob {E : Value → Shared → Prop} {pins : List (Addr × Obj)} {s : Shared} {σ : St} {H : Hp} {x : Str} {u : Value} {pos : Pos} {Q : Value → Shared → Prop} (I : Inv X pins σ H s) (hg : Gl X x) (hm : X.mg x = some u) (h : Q u s)
    (hd : (x == ("__debug__" : Str)) = false := by decide) : wpAny (model X.prog X.w) X.A (eval (.Name x pos) X.env) Q E s :=
  Calls.Name_function_global I.ok.kind hg (Calls.loadGlobal_global (by rw [I.ok.glob]; exact I.mod.glob.keeps I.bk) hm h) hd
theorem ld_blt {E : Value → Shared → Prop} {pins : List (Addr × Obj)} {s : Shared} {σ : St} {H : Hp} {x : Str} {u : Value} {pos : Pos} {Q : Value → Shared → Prop} (I : Inv X pins σ H s) (hg : Gl X x) (hm : X.mg x = none) (hv : bootBuiltins x = some u) (h : Q u s)
    (hn : x ≠ "__name__" := by decide) (hd : (x == ("__debug__" : Str)) = false := by decide) : wpAny (model X.prog X.w) X.A (eval (.Name x pos) X.env) Q E s := by
  obtain ⟨mb, h1, h2⟩ := I.mod.blt
  exact Calls.Name_function_global I.ok.kind hg (Calls.loadGlobal_builtin (by rw [I.ok.glob]; exact I.mod.glob.keeps I.bk) hm (by rw [I.ok.blt]; exact h1.keeps I.bk) ((h2 x hn).trans hv) h) hd
theorem pe_glob {x : Str} {v : V} {u : Value} {pos : Pos} (hg : Gl X x) (hm : X.mg x = some u) (r : RelV v u) (hd : (x == ("__debug__" : Str)) = false := by decide) : PE X (.Name x pos) (tC v) :=
  fun _ _ _ H _ I h => ld_glob I hg hm ⟨v, H, I, r, h⟩ hd
theorem pe_bltn {x : Str} {v : V} {u : Value} {pos : Pos} (hg : Gl X x) (hm : X.mg x = none) (hv : bootBuiltins x = some u) (r : RelV v u) (hn : x ≠ "__name__" := by decide) (hd : (x == ("__debug__" : Str)) = false := by decide) : PE X (.Name x pos) (tC v) :=
  fun _ _ _ H _ I h => ld_blt I hg hm hv ⟨v, H, I, r, h⟩ hn hd
def t2I (ta tb : TE) (k : Int → Int → Hp → Prop) : St → Hp → Prop := fun σ H => ta σ H fun x H1 => tb σ H1 fun y H2 => ∃ i j, x = .int i ∧ y = .int j ∧ k i j H2
def tAdd (ta tb : TE) : TE := fun σ H Q => t2I ta tb (fun i j H2 => Q (.int (i + j)) H2) σ H
def tSub (ta tb : TE) : TE := fun σ H Q => t2I ta tb (fun i j H2 => Q (.int (i - j)) H2) σ H
def tMul (ta tb : TE) : TE := fun σ H Q => t2I ta tb (fun i j H2 => (-(2 ^ 64) < i ∧ i < 2 ^ 64) ∧ Q (.int (i * j)) H2) σ H
variable {a b : Expr} {ta tb : TE} {pos : Pos}
def PC (X : Cx) (op : CmpOp) (a b : Expr) (t : TE) : Prop :=
  ∀ (pins : List (Addr × Obj)) (s : Shared) (σ : St) (H : Hp) (Q : VK), Inv X pins σ H s → t σ H Q →
    wpAny (model X.prog X.w) X.A (eval a X.env) (fun v s₁ => wpAny (model X.prog X.w) X.A (eval b X.env) (fun u s₂ => wpAny (model X.prog X.w) X.A (compareOp op v u) (EP X pins σ Q) X.xe s₂) X.xe s₁) X.xe s
theorem nobehind (b : Expr) {op : CmpOp} (h : op ≠ .In) (h2 : op ≠ .NotIn) : behindInMarks op b = false := by
  have e1 : (op == CmpOp.In) = false := by cases op <;> first | rfl | exact absurd rfl h
  have e2 : (op == CmpOp.NotIn) = false := by cases op <;> first | rfl | exact absurd rfl h2
  cases b <;> simp [behindInMarks, e1, e2]
def tCmp (p : Int → Int → Bool) (ta tb : TE) : TE := fun σ H Q => t2I ta tb (fun i j H2 => Q (.bl (p i j)) H2) σ H
abbrev tLt : TE → TE → TE := tCmp fun i j => decide (i < j)
abbrev tLe : TE → TE → TE := tCmp fun i j => decide (i ≤ j)
abbrev tGt : TE → TE → TE := tCmp fun i j => decide (j < i)
abbrev tGe : TE → TE → TE := tCmp fun i j => decide (j ≤ i)
abbrev tEqI : TE → TE → TE := tCmp fun i j => decide (i = j)
abbrev tNeI : TE → TE → TE := tCmp fun i j => !decide (i = j)
def tIsN (ta : TE) : TE := fun σ H Q => ta σ H fun x H1 => Q (.bl (decide (x = .non))) H1
def tNotN (ta : TE) : TE := fun σ H Q => ta σ H fun x H1 => Q (.bl (!decide (x = .non))) H1
def tB (t : TE) : TT := fun σ H Q => t σ H fun x H1 => ∃ c, x = .bl c ∧ Q c H1
theorem pt_cmp {op : CmpOp} {t : TE} (h : PC X op a b t) (h1 : behindInMarks op b = false := by first | exact nobehind _ (by decide) (by decide) | rfl) : PT X (.Compare a [op] [b] pos) (tB t) := by
  intro pins s σ H Q I hw
  refine wpAny_isTrue_Compare1 (thn (h pins s σ H _ I hw) fun v s1 h1 => thn h1 fun u s2 h2 => thn h2 fun c s3 ⟨x, H1, I1, r1, q1⟩ => ?_) h1
  obtain ⟨d, rfl, q⟩ := q1
  cases r1
  exact wpAny_truthy_bool ⟨H1, I1, q⟩
theorem pt_val {e : Expr} {t : TE} (h : PE X e t) (he : ∀ whole, isTrue e X.env whole = (do let v ← whole; standAt e.pos; holding [v] (truthy v)) := by intro _; rfl) : PT X e (tB t) := by
  intro pins s σ H Q I hw
  refine isTrue_plain (thn (h pins s σ H _ I hw) fun v s1 ⟨x, H1, I1, r1, q1⟩ => ?_) (he _)
  obtain ⟨d, rfl, q⟩ := q1
  cases r1
  exact wpAny_truthy_bool ⟨H1, I1, q⟩
variable {tA tB' : TT} {rest : List Expr}
def tAnd (t u : TT) : TT := fun σ H Q => t σ H fun c H1 => if c = true then u σ H1 Q else Q false H1
def tOr (t u : TT) : TT := fun σ H Q => t σ H fun c H1 => if c = true then Q true H1 else u σ H1 Q
def tNot (t : TT) : TT := fun σ H Q => t σ H fun c H1 => Q (!c) H1
theorem pw_and1 (ha : PT X a tA) : PW X (.BoolOp .And [a] pos) tA := by
  intro wh pins s σ H Q I h
  refine isTrue_and (thn (ha pins s σ H Q I h) fun c s1 e => ?_)
  cases c with
  | true => exact isTrue_and_nil e
  | false => exact e
theorem pw_or1 (ha : PT X a tA) : PW X (.BoolOp .Or [a] pos) tA := by
  intro wh pins s σ H Q I h
  refine isTrue_or (thn (ha pins s σ H Q I h) fun c s1 e => ?_)
  cases c with
  | false => exact isTrue_or_nil e
  | true => exact e
theorem pw_and (ha : PT X a tA) (hb : PW X (.BoolOp .And (b :: rest) pos) tB') : PW X (.BoolOp .And (a :: b :: rest) pos) (tAnd tA tB') := by
  intro wh pins s σ H Q I h
  refine isTrue_and (thn (ha pins s σ H _ I h) fun c s1 ⟨H1, I1, q1⟩ => ?_)
  cases c with
  | true => exact hb wh pins s1 σ H1 Q I1 q1
  | false => exact ⟨H1, I1, q1⟩
theorem pw_or (ha : PT X a tA) (hb : PW X (.BoolOp .Or (b :: rest) pos) tB') : PW X (.BoolOp .Or (a :: b :: rest) pos) (tOr tA tB') := by
  intro wh pins s σ H Q I h
  refine isTrue_or (thn (ha pins s σ H _ I h) fun c s1 ⟨H1, I1, q1⟩ => ?_)
  cases c with
  | true => exact ⟨H1, I1, q1⟩
  | false => exact hb wh pins s1 σ H1 Q I1 q1
theorem pt_not (ha : PT X a tA) : PT X (.UnaryOp .Not a pos) (tNot tA) := by
  intro pins s σ H Q I h
  exact isTrue_not (ha pins s σ H (fun c H1 => Q (!c) H1) I h)
def tAndV (ta tb : TE) : TE := fun σ H Q => ta σ H fun x H1 => ∃ c, x = .bl c ∧ if c = true then tb σ H1 Q else Q (.bl false) H1
def tOrV (ta tb : TE) : TE := fun σ H Q => ta σ H fun x H1 => ∃ c, x = .bl c ∧ if c = true then Q (.bl true) H1 else tb σ H1 Q
def tNotV (ta : TE) : TE := fun σ H Q => ta σ H fun x H1 => ∃ c, x = .bl c ∧ Q (.bl (!c)) H1
theorem pe_one {op} {t : TE} (h : PE X a t) : PE X (.BoolOp op [a] pos) t := fun pins s σ H Q I hw => BoolOp_one (h pins s σ H Q I hw)
theorem pe_and (ha : PE X a ta) (hb : PE X (.BoolOp .And (b :: rest) pos) tb) : PE X (.BoolOp .And (a :: b :: rest) pos) (tAndV ta tb) := by
  intro pins s σ H Q I h
  refine BoolOp_and (thn (ha pins s σ H _ I h) fun v s1 ⟨x, H1, I1, r1, q1⟩ => ?_)
  obtain ⟨c, rfl, q1⟩ := q1
  cases r1
  refine wpAny_truthy_bool ?_
  cases c with
  | true => exact hb pins s1 σ H1 Q I1 q1
  | false => exact ⟨.bl false, H1, I1, rfl, q1⟩
theorem pe_not (ha : PE X a ta) : PE X (.UnaryOp .Not a pos) (tNotV ta) := by
  intro pins s σ H Q I h
  refine UnaryOp_ (thn (ha pins s σ H _ I h) fun v s1 ⟨x, H1, I1, r1, q1⟩ => ?_)
  obtain ⟨c, rfl, q1⟩ := q1
  cases r1
  exact not_of (wpAny_truthy_bool ⟨.bl (!c), H1, I1, rfl, q1⟩)
def tIf (t : TT) (ta tb : TE) : TE := fun σ H Q => t σ H fun c H1 => if c = true then ta σ H1 Q else tb σ H1 Q
theorem pe_ifExp {c : Expr} (hc : PT X c tA) (ha : PE X a ta) (hb : PE X b tb) : PE X (.IfExp c a b pos) (tIf tA ta tb) := by
  intro pins s σ H Q I h
  refine wpAny_IfExp (thn (hc pins s σ H _ I h) fun d s1 ⟨H1, I1, q1⟩ => ?_)
  cases d with
  | true => exact ha pins s1 σ H1 Q I1 q1
  | false => exact hb pins s1 σ H1 Q I1 q1
end
end L2
namespace L2
open PySem PySem.Spec PyProof.Rows
def SqL (K : PySem.W.Frag) (H : Hp) (a : Addr) (xs : List V) : Prop :=
  Rd H a (.lst xs) ∨
    ∃ (o : Obj) (its : Array Value) (n : Nat), K.lookup a = some o ∧ o.cls = .type "list" ∧ o.dict = none ∧ o.data = .seq its n ∧ its.size ≤ sizeLine ∧ Vals xs its.toList
def SqT (K : PySem.W.Frag) (H : Hp) (a : Addr) (xs : List V) : Prop :=
  Rd H a (.tup xs) ∨
    ∃ (o : Obj) (its : Array Value) (n : Nat), K.lookup a = some o ∧ o.cls = .type "tuple" ∧ o.data = .seq its n ∧ its.size ≤ sizeLine ∧ Vals xs its.toList
def absV : Value → Option V
  | .none => some .non
  | .bool b => some (.bl b)
  | .int i _ => some (.int i)
  | .str x _ => some (.str x)
  | .bytes b _ => some (.byt b)
  | .float b _ => some (.flt b)
  | .ref a => some (.ref a)
  | .type n => some (.ty n)
  | _ => none
theorem RelV.abs {x : V} {u : Value} (r : RelV x u) : absV u = some x := by
  cases x with
  | non => cases r; rfl
  | bl _ => cases r; rfl
  | int _ => obtain ⟨t, rfl⟩ := r; rfl
  | str _ => obtain ⟨t, rfl⟩ := r; rfl
  | byt _ => obtain ⟨t, rfl⟩ := r; rfl
  | flt _ => obtain ⟨t, rfl⟩ := r; rfl
  | ref _ => cases r; rfl
  | ty _ => cases r; rfl
theorem RelV.inj {x y : V} {u : Value} (r : RelV x u) (q : RelV y u) : x = y := Option.some.inj (r.abs.symm.trans q.abs)
theorem Vals.inj : ∀ {xs ys : List V} {us : List Value}, Vals xs us → Vals ys us → xs = ys
  | _, _, _, .nil, .nil => rfl
  | _, _, _, .cons r t, .cons r' t' => by rw [r.inj r', Vals.inj t t']
section
variable {X : Cx} {pins : List (Addr × Obj)} {σ : St} {H : Hp} {s : Shared} {a : Addr} {xs ys : List V}
theorem SqL.of {K : PySem.W.Frag} (h : H a = some (.lst xs)) : SqL K H a xs := .inl (.inl h)
theorem SqT.of {K : PySem.W.Frag} (h : H a = some (.tup xs)) : SqT K H a xs := .inl (.inl h)
theorem Inv.list (I : Inv X pins σ H s) (h : SqL X.K H a xs) : ∃ its : List Value, Vals xs its ∧ PlainL s.heap a its.toArray ∧ xs.length ≤ sizeLine := by
  rcases h with h | ⟨o, its, n, hk, hc, hd, hs, hz, r⟩
  · obtain ⟨z, its, n, r, e⟩ := h.ok I.hok
    exact ⟨its, r, ⟨_, n, e, rfl, rfl, rfl⟩, z⟩
  · refine ⟨its.toList, r, ⟨o, n, I.kIn a o hk, hc, hd, by simpa using hs⟩, ?_⟩
    have e := r.length
    simp only [Array.length_toList] at e
    omega
theorem Inv.tuple (I : Inv X pins σ H s) (h : SqT X.K H a xs) : ∃ its : List Value, Vals xs its ∧ IsTup s.heap a its.toArray ∧ xs.length ≤ sizeLine := by
  rcases h with h | ⟨o, its, n, hk, hc, hs, hz, r⟩
  · obtain ⟨z, its, r, p⟩ := h.ok I.hok
    exact ⟨its, r, p, z⟩
  · refine ⟨its.toList, r, ⟨o, I.kIn a o hk, hc, n, by simpa using hs⟩, ?_⟩
    have e := r.length
    simp only [Array.length_toList] at e
    omega
theorem Inv.list_inj (I : Inv X pins σ H s) (h : SqL X.K H a xs) (h' : SqL X.K H a ys) : xs = ys := by
  obtain ⟨its, r, ⟨o, n, e, _, _, d⟩, _⟩ := I.list h
  obtain ⟨its', r', ⟨o', n', e', _, _, d'⟩, _⟩ := I.list h'
  rw [e] at e'; cases e'
  rw [d] at d'
  injection d' with d1 _
  have : its = its' := by simpa using congrArg Array.toList d1
  subst this
  exact r.inj r'
end
abbrev Cx.wish (X : Cx) (E : Value → Shared → Prop) : Cx := { X with xe := E }
abbrev Cx.nox (X : Cx) : Cx := X.wish fun _ _ => False
theorem Cx.Ok.wish {X : Cx} (ok : X.Ok) (E : Value → Shared → Prop) : (X.wish E).Ok :=
  ⟨ok.mod, ok.kind, ok.glob, ok.blt, ok.above, ok.inj, ok.has, ok.cab, ok.hd, ok.frames, ok.stk, ok.exf, ok.bs, ok.bsz, ok.noex, ok.exfs, ok.funs, ok.frf⟩
theorem Cx.Ok.unwish {X : Cx} {E : Value → Shared → Prop} (ok : (X.wish E).Ok) : X.Ok :=
  ⟨ok.mod, ok.kind, ok.glob, ok.blt, ok.above, ok.inj, ok.has, ok.cab, ok.hd, ok.frames, ok.stk, ok.exf, ok.bs, ok.bsz, ok.noex, ok.exfs, ok.funs, ok.frf⟩
section
variable {X : Cx} {pins : List (Addr × Obj)} {σ : St} {H : Hp} {s : Shared} {E : Value → Shared → Prop}
theorem Inv.wish (I : Inv X pins σ H s) (E : Value → Shared → Prop) : Inv (X.wish E) pins σ H s := ⟨I.ok.wish E, I.os, I.bare, I.base, I.loc, I.cell, I.free, I.freeC, I.pin, I.hok, I.len⟩
theorem Inv.unwish (I : Inv (X.wish E) pins σ H s) : Inv X pins σ H s := ⟨I.ok.unwish, I.os, I.bare, I.base, I.loc, I.cell, I.free, I.freeC, I.pin, I.hok, I.len⟩
theorem SP.unwish {D : Ends} {f : Flow} {s' : Shared} (h : SP (X.wish E) pins D f s') : SP X pins D f s' := by
  cases f with
  | next => obtain ⟨σ', H', I, q⟩ := h; exact ⟨σ', H', I.unwish, q⟩
  | brk => obtain ⟨σ', H', I, q⟩ := h; exact ⟨σ', H', I.unwish, q⟩
  | cont => obtain ⟨σ', H', I, q⟩ := h; exact ⟨σ', H', I.unwish, q⟩
  | ret u => obtain ⟨v, σ', H', I, r, q⟩ := h; exact ⟨v, σ', H', I.unwish, r, q⟩
theorem PE.nox {e : Expr} {t : TE} (h : PE X.nox e t) : PE X e t := fun pins s σ H Q I hw =>
  wpAny_mono (h pins s σ H Q (I.wish _) hw) (fun _ _ ⟨v, H', I', r, q⟩ => ⟨v, H', I'.unwish, r, q⟩) fun _ _ z => False.elim z
theorem PT.nox {e : Expr} {t : TT} (h : PT X.nox e t) : PT X e t := fun pins s σ H Q I hw =>
  wpAny_mono (h pins s σ H Q (I.wish _) hw) (fun _ _ ⟨H', I', q⟩ => ⟨H', I'.unwish, q⟩) fun _ _ z => False.elim z
theorem PSs.nox {st : List Stmt} {t : TS} (h : PSs X.nox st t) : PSs X st t := fun pins s σ H D I hw =>
  wpAny_mono (h pins s σ H D (I.wish _) hw) (fun _ _ q => q.unwish) fun _ _ z => False.elim z
end
section
variable {X : Cx} {st : Stmt} {rest : List Stmt} {t u : TS} {e : Expr} {te : TE} {pos : Pos}
def tNext : TS := fun D σ H => D.nx σ H
def tSeq (t u : TS) : TS := fun D σ H => t { D with nx := u D } σ H
theorem pss_nil : PSs X [] tNext := fun _ _ σ H _ I h => wpAny_execs_nil ⟨σ, H, I, h⟩
theorem pss_cons (h1 : PS X st t) (h2 : PSs X rest u) : PSs X (st :: rest) (tSeq t u) := by
  intro pins s σ H D I h
  refine wpAny_execs_cons (thn (h1 pins s σ H { D with nx := u D } I h) fun f s1 q => ?_)
  cases f with
  | next =>
    obtain ⟨σ', H', I', q⟩ := q
    exact h2 pins s1 σ' H' D I' q
  | ret v => exact q
  | brk => exact q
  | cont => exact q
theorem pss_one (h1 : PS X st t) : PSs X [st] t := by
  intro pins s σ H D I h
  refine wpAny_execs_cons (thn (h1 pins s σ H D I h) fun f s1 q => ?_)
  cases f with
  | next => exact wpAny_execs_nil q
  | ret v => exact q
  | brk => exact q
  | cont => exact q
def tBreak : TS := fun D σ H => D.bk σ H
def tCont : TS := fun D σ H => D.ct σ H
theorem Inv.quiet {pins : List (Addr × Obj)} {σ : St} {H : Hp} {s : Shared} (I : Inv X pins σ H s) : interactive X.env = false := by simp [interactive, I.ok.kind]
def tDrop (te : TE) : TS := fun D σ H => te σ H fun _ H1 => D.nx σ H1
theorem ps_expr (he : PE X e te) (hs : swapsWith e none pos.line X.env = pure false := by rfl) : PS X (.Expr e pos) (tDrop te) := by
  intro pins s σ H D I h
  exact wpAny_Expr_any (thn (he pins s σ H _ I h) fun v s1 ⟨x, H1, I1, r1, q1⟩ => ⟨σ, H1, I1, q1⟩) I.quiet hs
def tRet (te : TE) : TS := fun D σ H => te σ H D.rt
theorem ps_ret (he : PE X e te) : PS X (.Return (some e) pos) (tRet te) := by
  intro pins s σ H D I h
  exact wpAny_Return_some (thn (he pins s σ H _ I h) fun v s1 ⟨x, H1, I1, r1, q1⟩ => ⟨x, σ, H1, I1, r1, q1⟩)
def tRetN : TS := fun D _ H => D.rt .non H
def tIfS (c : TT) (t u : TS) : TS := fun D σ H => c σ H fun b H1 => if b = true then t D σ H1 else u D σ H1
theorem ps_if {c : Expr} {a b : List Stmt} {tc : TT} (hc : PT X c tc) (ha : PSs X a t) (hb : PSs X b u) : PS X (.If c a b pos) (tIfS tc t u) := by
  intro pins s σ H D I h
  refine wpAny_If (thn (hc pins s σ H _ I h) fun d s1 ⟨H1, I1, q1⟩ => ?_)
  cases d with
  | true => exact ha pins s1 σ H1 D I1 q1
  | false => exact hb pins s1 σ H1 D I1 q1
def tNever : TS := fun _ _ _ => False
end
abbrev TG := V → St → Hp → (St → Hp → Prop) → Prop
abbrev TGs := List V → St → Hp → (St → Hp → Prop) → Prop
def PG (X : Cx) (target : Expr) (t : TG) : Prop :=
  ∀ (pins : List (Addr × Obj)) (s : Shared) (σ : St) (H : Hp) (v : V) (u : Value) (Q : St → Hp → Prop), Inv X pins σ H s → RelV v u → t v σ H Q →
    wpAny (model X.prog X.w) X.A (assign target X.env u) (fun _ s' => ∃ σ' H', Inv X pins σ' H' s' ∧ Q σ' H') X.xe s
def PGs (X : Cx) (ts : List Expr) (t : TGs) : Prop :=
  ∀ (pins : List (Addr × Obj)) (s : Shared) (σ : St) (H : Hp) (vs : List V) (us : List Value) (Q : St → Hp → Prop), Inv X pins σ H s → Vals vs us → t vs σ H Q →
    wpAny (model X.prog X.w) X.A (assignInOrder ((assignEach ts X.env).map (·.2)) us) (fun _ s' => ∃ σ' H', Inv X pins σ' H' s' ∧ Q σ' H') X.xe s
abbrev TSet := V → V → V → Hp → (Hp → Prop) → Prop
def PSet (X : Cx) (t : TSet) : Prop :=
  ∀ (pins : List (Addr × Obj)) (s : Shared) (σ : St) (H : Hp) (o i v : V) (ov iv u : Value) (Q : Hp → Prop), Inv X pins σ H s → RelV o ov → RelV i iv → RelV v u → t o i v H Q →
    wpAny (model X.prog X.w) X.A (setItem ov iv u) (fun _ s' => ∃ H', Inv X pins σ H' s' ∧ Q H') X.xe s
abbrev TIp := V → V → Hp → VK → Prop
def PIp (X : Cx) (op : Operator) (t : TIp) : Prop :=
  ∀ (pins : List (Addr × Obj)) (s : Shared) (σ : St) (H : Hp) (x y : V) (v u : Value) (Q : VK), Inv X pins σ H s → RelV x v → RelV y u → t x y H Q →
    wpAny (model X.prog X.w) X.A (inplaceOp op v u) (EP X pins σ Q) X.xe s
section
variable {X : Cx} {pos : Pos}
def gName (i : Nat) : TG := fun v σ H Q => Q (σ.set i (some v)) H
theorem pg_name {i : Nat} {x : Str} (hN : X.N.Nodup) (hi : X.N[i]? = some x) (hx : Loc X.env.scope x) (hf : X.fn x = true ∨ X.env.scope.names.lookup x = some .local := by first | exact .inl rfl | exact .inr rfl | assumption) : PG X (.Name x pos) (gName i) := by
  intro pins s σ H v u Q I r h
  exact wpAny_assign_Name (store_ok I hN hi hx r (fun s' I' => ⟨_, H, I', h⟩) hf)
def gNil : TGs := fun vs σ H Q => vs = [] ∧ Q σ H
def gCons (t : TG) (u : TGs) : TGs := fun vs σ H Q => ∃ v r, vs = v :: r ∧ t v σ H fun σ' H' => u r σ' H' Q
def gTup (K : PySem.W.Frag) (n : Nat) (t : TGs) : TG := fun v σ H Q => ∃ a xs, v = .ref a ∧ SqT K H a xs ∧ xs.length = n ∧ t xs σ H Q
def gSub (to ti : TE) (t : TSet) : TG := fun v σ H Q => to σ H fun o H1 => ti σ H1 fun i H2 => t o i v H2 fun H3 => Q σ H3
def tAsg (te : TE) (g : TG) : TS := fun D σ H => te σ H fun x H1 => g x σ H1 D.nx
theorem ps_set {i : Nat} {x : Str} {e : Expr} {te : TE} {pos' : Pos} (hN : X.N.Nodup) (hi : X.N[i]? = some x) (hx : Loc X.env.scope x) (he : PE X e te) (hs : swapsWith e (some (.Name x pos')) pos.line X.env = pure false := by rfl) (hf : X.fn x = true ∨ X.env.scope.names.lookup x = some .local := by first | exact .inl rfl | exact .inr rfl | assumption) :
    PS X (.Assign [.Name x pos'] e pos) (tAsg te (gName i)) := by
  intro pins s σ H D I h
  refine wpAny_Assign_Name (thn (he pins s σ H _ I h) fun v s1 ⟨y, H1, I1, r1, q1⟩ => ?_) hs
  exact store_ok I1 hN hi hx r1 (fun s2 I2 => ⟨_, H1, I2, q1⟩) hf
def tPar (i j : Nat) (ta : TA) : TS := fun D σ H => ta σ H fun vs H1 => ∃ v w, vs = [v, w] ∧ D.nx ((σ.set i (some v)).set j (some w)) H1
def tAug (i : Nat) (te : TE) (ti : TIp) : TS := fun D σ H => ∃ x, σ[i]? = some (some x) ∧ te σ H fun y H1 => ti x y H1 fun z H2 => D.nx (σ.set i (some z)) H2
def tAugS (to ti te : TE) (tget : V → V → Hp → VK → Prop) (tip : TIp) (tset : TSet) : TS := fun D σ H => to σ H fun o H1 => ti σ H1 fun i H2 => tget o i H2 fun x H3 => te σ H3 fun y H4 => tip x y H4 fun z H5 => tset o i z H5 fun H6 => D.nx σ H6
def PGet (X : Cx) (t : V → V → Hp → VK → Prop) : Prop :=
  ∀ (pins : List (Addr × Obj)) (s : Shared) (σ : St) (H : Hp) (o i : V) (ov iv : Value) (Q : VK), Inv X pins σ H s → RelV o ov → RelV i iv → t o i H Q →
    wpAny (model X.prog X.w) X.A (getItem ov iv) (EP X pins σ Q) X.xe s
def ipI (f : Int → Int → Int) : TIp := fun x y H Q => ∃ i j, x = .int i ∧ y = .int j ∧ Q (.int (f i j)) H
end
section
variable {X : Cx} {pos : Pos}
def tWhile (c : TT) (tb : TS) : TS := fun D σ H => ∃ W : Nat → St → Hp → Prop, (∃ m, W m σ H) ∧ ∀ m σ H, W m σ H →
  c σ H fun b H1 => if b = true then ∃ N : St → Hp → Prop, (∀ σ' H', N σ' H' → ∃ m', m' < m ∧ W m' σ' H') ∧ tb { D with nx := N, ct := N, bk := D.nx } σ H1 else D.nx σ H1
theorem ps_while {c : Expr} {body : List Stmt} {tc : TT} {tb : TS} (hp : PassesOwn (model X.prog X.w) X.A X.env X.xe) (hc : PT X c tc) (hb : PSs X body tb) : PS X (.While c body [] pos) (tWhile tc tb) := by
  intro pins s σ H D I h
  obtain ⟨W, ⟨m0, w0⟩, turn⟩ := h
  refine wpAny_While (codeAny_whileLoop (fun n s' => ∃ σ' H', Inv X pins σ' H' s' ∧ W n σ' H') ?_ m0 ⟨σ, H, I, w0⟩)
  rintro n s1 ⟨σ1, H1, I1, w1⟩
  refine wpAny_passesOwn hp (thn (hc pins s1 σ1 H1 _ I1 (turn n σ1 H1 w1)) fun b s2 ⟨H2, I2, q2⟩ => ?_)
  cases b with
  | true =>
    obtain ⟨N, hN, q2⟩ := q2
    rw [if_pos rfl]
    refine wpAny_passesOwn hp (thn (hb pins s2 σ1 H2 _ I2 q2) fun f s3 q3 => ?_)
    cases f with
    | next =>
      obtain ⟨σ3, H3, I3, n3⟩ := q3
      obtain ⟨m', hm, w3⟩ := hN σ3 H3 n3
      exact ⟨m', hm, σ3, H3, I3, w3⟩
    | cont =>
      obtain ⟨σ3, H3, I3, n3⟩ := q3
      obtain ⟨m', hm, w3⟩ := hN σ3 H3 n3
      exact ⟨m', hm, σ3, H3, I3, w3⟩
    | brk => exact q3
    | ret v => exact q3
  | false =>
    rw [if_neg Bool.false_ne_true]
    exact wpAny_execs_nil ⟨σ1, H2, I2, q2⟩
end
structure It where
  go : Nat → Hp → Prop
  yld : Nat → Hp → V → Hp → Prop
  stop : Nat → Hp → Prop
def FpOk (X : Cx) (pins : List (Addr × Obj)) (H : Hp) (b : Addr) : Prop :=
  H b = none ∧ b ≠ X.env.locals ∧ b ∉ X.fs ∧ (b ∈ X.ex ∨ X.s₀.heap.objs.size ≤ b) ∧ (∀ x c, X.env.cells.lookup x = some c → c ≠ b) ∧ ∀ p ∈ X.pn ++ pins, p.1 ≠ b
theorem Inv.fpOk {X : Cx} {pins : List (Addr × Obj)} {σ : St} {H H' : Hp} {s : Shared} {b : Addr} (I : Inv X pins σ H s) (hb : s.heap.objs.size ≤ b) (hn : H' b = none) : FpOk X pins H' b := by
  refine ⟨hn, Nat.ne_of_gt (Nat.lt_of_lt_of_le I.lt hb), I.nofs hb, .inr (Nat.le_trans I.sz hb), fun x c e z => ?_, fun p hp z => ?_⟩
  · obtain ⟨v, q⟩ := I.cell x c e
    exact absurd (Nat.lt_of_lt_of_le q.lt (by rw [z]; exact hb)) (Nat.lt_irrefl _)
  · exact absurd (Nat.lt_of_lt_of_le (Heap.lt_size (I.pin p hp).1) (by rw [z]; exact hb)) (Nat.lt_irrefl _)
structure Turn (P : Program) (w : World) (K : PySem.W.Frag) (tg : Expr) (J : It) (fp : List Addr) (it : Addr) (tn : Nat → Heap → Prop) : Prop where
  mem : it ∈ fp
  obj : ∀ i h, tn i h → ∀ b ∈ fp, ∃ o, h.get? b = some o ∧ ∀ v, o.data ≠ .cell v
  keep : ∀ i h h', tn i h → (∀ b ∈ fp, ∀ o, h.get? b = some o → h'.get? b = some o) → tn i h'
  item : ∀ (X : Cx), X.prog = P → X.w = w → X.K = K → X.calm = true → ∀ (i : Nat) (pins : List (Addr × Obj)) (s : Shared) (σ : St) (H : Hp) (E : Value → Shared → Prop), Inv X pins σ H s → (∀ b ∈ fp, FpOk X pins H b) → tn i s.heap → J.go i H →
    wpAny (model P w) X.A (pyNext (.ref it)) (fun r s1 => ∃ u, r = some u ∧
      wpAny (model P w) X.A (letOwnedTupleGo tg (.ref it) u) (fun _ s2 => ∃ x H', Inv X pins σ H' s2 ∧ RelV x u ∧ J.yld i H x H' ∧ tn (i + 1) s2.heap ∧ ∀ b ∈ fp, H' b = none) E s1) E s
  done : ∀ (X : Cx), X.prog = P → X.w = w → X.K = K → X.calm = true → ∀ (i : Nat) (pins : List (Addr × Obj)) (s : Shared) (σ : St) (H : Hp) (E : Value → Shared → Prop), Inv X pins σ H s → (∀ b ∈ fp, FpOk X pins H b) → tn i s.heap → J.stop i H →
    wpAny (model P w) X.A (pyNext (.ref it)) (fun r s1 => r = none ∧ Inv X pins σ H s1) E s
  self : ∀ (A : Around) (i : Nat) (s : Shared) (Q : Value → Shared → Prop) (E : Value → Shared → Prop), tn i s.heap → Q (.ref it) s → wpAny (model P w) A (pyIter (.ref it)) Q E s
abbrev TI := St → Hp → (It → Hp → Prop) → Prop
def PIE (X : Cx) (pins : List (Addr × Obj)) (σ : St) (tg : Expr) (R : It → Hp → Prop) (itv : Value) (s2 : Shared) : Prop :=
  ∃ (it : Addr) (fp : List Addr) (tn : Nat → Heap → Prop) (J : It) (H' : Hp), itv = .ref it ∧ Inv X pins σ H' s2 ∧ Turn X.prog X.w X.K tg J fp it tn ∧ tn 0 s2.heap ∧ (∀ b ∈ fp, FpOk X pins H' b) ∧ R J H'
def PI (X : Cx) (tg iter : Expr) (wi : TI) : Prop :=
  ∀ (pins : List (Addr × Obj)) (s : Shared) (σ : St) (H : Hp) (R : It → Hp → Prop), Inv X pins σ H s → wi σ H R →
    wpAny (model X.prog X.w) X.A (eval iter X.env) (fun v s1 => wpAny (model X.prog X.w) X.A (pyIter v) (PIE X pins σ tg R) X.xe s1) X.xe s
theorem go_of {M : Model} {A : Around} {E : Value → Shared → Prop} {s : Shared} {tg : Expr} {it : Addr} {u : Value} {o : Obj} {n : String} {vs : Array Value} {Q : Unit → Shared → Prop} (ho : s.heap.get? it = some o) (hc : o.cls = .type n) (hd : o.data = .fields vs)
    (hn : ["enumerate", "zip", "dict_itemiterator", "dict_reverseitemiterator", "odict_iterator", "itertools.zip_longest", "itertools.pairwise"].contains n = false) (hQ : Q () s) : wpAny M A (letOwnedTupleGo tg (.ref it) u) Q E s := by
  unfold letOwnedTupleGo
  cases tg <;> first
    | exact wpAny_pure hQ
    | (cases u <;> first
        | exact wpAny_pure hQ
        | (refine wpAny_bind (wpAny_load ho ?_)
           rw [hc, hd]
           show wpAny M A (if (["enumerate", "zip", "dict_itemiterator", "dict_reverseitemiterator", "odict_iterator", "itertools.zip_longest", "itertools.pairwise"].contains n && vs[0]? == some (rawInt _)) = true then _ else _) Q E s
           rw [if_neg (by intro h; rw [hn, Bool.false_and] at h; cases h)]
           exact wpAny_pure hQ))
def Itl (K : PySem.W.Frag) (a : Addr) : It :=
  ⟨fun i H => ∃ xs x, SqL K H a xs ∧ xs[i]? = some x, fun i H x H' => H' = H ∧ ∀ xs, SqL K H a xs → xs[i]? = some x, fun i H => ∃ xs, SqL K H a xs ∧ xs.length ≤ i⟩
def Itt (K : PySem.W.Frag) (a : Addr) : It :=
  ⟨fun i H => ∃ xs x, SqT K H a xs ∧ xs[i]? = some x, fun i H x H' => H' = H ∧ ∀ xs, SqT K H a xs → xs[i]? = some x, fun i H => ∃ xs, SqT K H a xs ∧ xs.length ≤ i⟩
def Itr (lo : Int) (n : Nat) : It := ⟨fun i _ => i < n, fun i H x H' => H' = H ∧ x = .int (lo + i), fun i _ => n ≤ i⟩
theorem turn_list {P : Program} {w : World} {K : PySem.W.Frag} {tg : Expr} (a it : Addr) : Turn P w K tg (Itl K a) [it] it (fun i h => h.IsListIter it a i) where
  mem := by simp
  obj := fun i h st b hb => by
    have e : b = it := by simpa using hb
    subst e
    obtain ⟨o, e, c, d⟩ := st
    exact ⟨o, e, fun v z => by rw [d] at z; cases z⟩
  keep := fun i h h' st k => st.at fun o e => k it (by simp) o e
  item := by
    intro X hP hw hK hc i pins s σ H E I hf st hg
    subst hP hw hK
    obtain ⟨xs, x, hq, hx⟩ := hg
    obtain ⟨its, rv, p, hz⟩ := I.list hq
    obtain ⟨u, hu, ru⟩ := rv.get hx
    obtain ⟨f0, f1, f2, f3, f4, f5⟩ := hf it (by simp)
    refine wpAny_pyNext_list_item st p.isList (x := u) (by simpa using hu) fun h' st' sb => ?_
    have I1 : Inv X pins σ H { s with heap := h' } := I.turned (t' := s.toks) (fun b o hb e => (sb.2 b hb).trans e) f0 f1 f3 f4 f5
    obtain ⟨o, e, c, d⟩ := id st'
    exact ⟨u, rfl, go_of (s := { s with heap := h' }) e c d (by decide) ⟨x, H, I1, ru, ⟨rfl, fun ys hy => by rw [I.list_inj hy hq]; exact hx⟩, st', fun b hb => (hf b hb).1⟩⟩
  done := by
    intro X hP hw hK hc i pins s σ H E I hf st hg
    subst hP hw hK
    obtain ⟨xs, hq, hx⟩ := hg
    obtain ⟨its, rv, p, hz⟩ := I.list hq
    obtain ⟨f0, f1, f2, f3, f4, f5⟩ := hf it (by simp)
    have hl := rv.length
    exact wpAny_pyNext_list_end (I.ok.hd hc) st p.isList (by simp; omega) fun h' eb => ⟨rfl, I.turned (t' := s.toks) (fun b o hb e => eb b o hb e) f0 f1 f3 f4 f5⟩
  self := fun _ _ _ _ _ st h => wpAny_pyIter_listiter st h
theorem turn_range {P : Program} {w : World} {K : PySem.W.Frag} {tg : Expr} (it : Addr) (lo : Int) (n : Nat) : Turn P w K tg (Itr lo n) [it] it (fun i h => IsRangeIter h it (lo + (i : Nat) * 1) ((n : Int) - (i : Nat)) 1) where
  mem := by simp
  obj := fun i h st b hb => by
    have e : b = it := by simpa using hb
    subst e
    exact ⟨_, st, fun v z => by
      have z' : Data.fields _ = Data.cell v := z
      cases z'⟩
  keep := fun i h h' st k => k it (by simp) _ st
  item := by
    intro X hP hw hK hc i pins s σ H E I hf st hg
    subst hP hw hK
    obtain ⟨f0, f1, f2, f3, f4, f5⟩ := hf it (by simp)
    have W := Walks.range (prog := X.prog) (w := X.w) (I.ok.hd hc) it lo 1 n
    refine W.item i s _ _ hg st fun v h' tk hv st' kk => ?_
    obtain ⟨t, rfl⟩ := hv
    have I1 : Inv X pins σ H { s with heap := h', toks := tk } := I.turned (fun b o hb e => kk b o (by simpa using hb) e) f0 f1 f3 f4 f5
    refine ⟨_, rfl, go_of (s := { s with heap := h', toks := tk }) (n := "range_iterator") st' rfl rfl (by decide) ⟨.int (lo + i), H, I1, ⟨t, ?_⟩, ⟨rfl, rfl⟩, st', fun b hb => (hf b hb).1⟩⟩
    rw [Int.mul_one]
  done := by
    intro X hP hw hK hc i pins s σ H E I hf st hg
    subst hP hw hK
    obtain ⟨f0, f1, f2, f3, f4, f5⟩ := hf it (by simp)
    exact wpAny_pyNext_range_end (I.ok.hd hc) st (by have : n ≤ i := hg; omega) fun h' eb => ⟨rfl, I.turned (t' := s.toks) (fun b o hb e => eb b o hb e) f0 f1 f3 f4 f5⟩
  self := fun _ _ _ _ _ st h => wpAny_pyIter_rangeiter st h
end L2
namespace L2
open PySem PySem.Spec PyProof.Rows
section
variable {X : Cx} {tg : Expr}
def iList (K : PySem.W.Frag) (tl : TE) : TI := fun σ H R => tl σ H fun x H1 => ∃ a, x = .ref a ∧ (∃ xs, SqL K H1 a xs) ∧ R (Itl K a) H1
def iTup (K : PySem.W.Frag) (tl : TE) : TI := fun σ H R => tl σ H fun x H1 => ∃ a, x = .ref a ∧ (∃ xs, SqT K H1 a xs) ∧ R (Itt K a) H1
theorem pi_list {l : Expr} {tl : TE} (hl : PE X l tl) : PI X tg l (iList X.K tl) := by
  intro pins s σ H R I h
  refine thn (hl pins s σ H _ I h) fun v s1 ⟨x, H1, I1, r1, q1⟩ => ?_
  obtain ⟨a, e, ⟨xs, hq⟩, q⟩ := q1
  subst e
  cases r1
  obtain ⟨its, rv, p, hz⟩ := I1.list hq
  refine wpAny_pyIter_list p.isList ?_
  refine ⟨s1.heap.objs.size, [s1.heap.objs.size], _, _, H1, rfl, I1.kept (t' := s1.toks) fun b o e => Heap.get?_push_of_some _ e, turn_list a _, ⟨_, Heap.get?_push_size _ rfl, rfl, rfl⟩, fun b hb => ?_, q⟩
  have e : b = s1.heap.objs.size := by simpa using hb
  subst e
  exact I1.fpOk (Nat.le_refl _) (I1.hok.fresh (Nat.le_refl _))
theorem range_it {pins : List (Addr × Obj)} {σ : St} {H : Hp} {s : Shared} {R : It → Hp → Prop} {E : Value → Shared → Prop} {lo hi : Int} {t u v : Tok} {tk : Nat} (I : Inv X pins σ H s) (h1 : -(2 ^ 62) ≤ lo) (h2 : lo < 2 ^ 62) (h3 : -(2 ^ 62) ≤ hi) (h4 : hi < 2 ^ 62)
    (q : R (Itr lo (hi - lo).toNat) H) : wpAny (model X.prog X.w) X.A (pyIter (.ref s.heap.objs.size)) (PIE X pins σ tg R) E { s with heap := s.heap.push { cls := .type "range", data := .fields #[.int lo t, .int hi u, .int 1 v] }, toks := tk } := by
  refine wpAny_pyIter_range (IsRange.new ..) (small_one h1 h2 h3 h4) ?_
  have I1 : Inv X pins σ H { s with heap := s.heap.push { cls := .type "range", data := .fields #[.int lo t, .int hi u, .int 1 v] }, toks := tk } := I.kept fun b o e => Heap.get?_push_of_some _ e
  refine ⟨(s.heap.push { cls := .type "range", data := .fields #[.int lo t, .int hi u, .int 1 v] }).objs.size, [(s.heap.push { cls := .type "range", data := .fields #[.int lo t, .int hi u, .int 1 v] }).objs.size], _, _, H, rfl,
    I1.kept (t' := tk) fun b o e => Heap.get?_push_of_some _ e, turn_range _ lo (hi - lo).toNat, ?_, fun b hb => ?_, q⟩
  · have e1 : lo + ((0 : Nat) : Int) * 1 = lo := by simp
    have e2 : (((hi - lo).toNat : Nat) : Int) - ((0 : Nat) : Int) = Builtin.Range.rangeSize lo hi 1 := by rw [rangeSize_one]; split <;> omega
    show IsRangeIter _ _ (lo + ((0 : Nat) : Int) * 1) ((((hi - lo).toNat : Nat) : Int) - ((0 : Nat) : Int)) 1
    rw [e1, e2]
    exact Heap.get?_push_size _ rfl
  · have e : b = (s.heap.push { cls := .type "range", data := .fields #[.int lo t, .int hi u, .int 1 v] }).objs.size := by simpa using hb
    subst e
    exact I1.fpOk (Nat.le_refl _) (I1.hok.fresh (Nat.le_refl _))
def iRng1 (ta : TA) : TI := fun σ H R => ta σ H fun vs H1 => ∃ j : Int, vs = [.int j] ∧ -(2 ^ 62) ≤ j ∧ j < 2 ^ 62 ∧ R (Itr 0 j.toNat) H1
def iRng2 (ta : TA) : TI := fun σ H R => ta σ H fun vs H1 => ∃ i j : Int, vs = [.int i, .int j] ∧ (-(2 ^ 62) ≤ i ∧ i < 2 ^ 62 ∧ -(2 ^ 62) ≤ j ∧ j < 2 ^ 62) ∧ R (Itr i (j - i).toNat) H1
theorem pi_range1 {a : Expr} {ta : TA} {p pos : Pos} (hg : Gl X "range") (hm : X.mg "range" = none) (ha : PA X [a] ta) (hs : starEach [a] X.env = [(false, eval a X.env)] := by rfl) : PI X tg (.Call (.Name "range" p) [a] [] pos) (iRng1 ta) := by
  intro pins s σ H R I h
  refine Call_ (ld_blt I hg hm boot_range (PyProof.Rows.callWith_type1 (thn (ha pos pins s σ H _ I h) fun us s1 ⟨vs, H1, I1, r1, q1⟩ => ?_) hs rfl))
  obtain ⟨j, e, q1, q2, q⟩ := q1
  subst e
  cases r1 with
  | cons r rr =>
    cases rr
    obtain ⟨t, rfl⟩ := r
    exact call_range_1 (range_it I1 (by omega) (by omega) q1 q2 (by simpa using q))
def tFor (wi : TI) (g : TG) (tb : TS) : TS := fun D σ H => wi σ H fun J H1 => ∃ W : Nat → Nat → St → Hp → Prop, (∃ m, W 0 m σ H1) ∧ ∀ i m σ H, W i m σ H →
  (J.stop i H ∧ D.nx σ H) ∨ (J.go i H ∧ ∃ N : St → Hp → Prop, (∀ σ' H', N σ' H' → ∃ m', m' < m ∧ W (i + 1) m' σ' H') ∧ ∀ x H', J.yld i H x H' → g x σ H' fun σ2 H2 => tb { D with nx := N, ct := N, bk := D.nx } σ2 H2)
def pinsAt (fp : List Addr) (h : Heap) : List (Addr × Obj) := fp.filterMap fun b => (h.get? b).map fun o => (b, o)
theorem mem_pinsAt {fp : List Addr} {h : Heap} {b : Addr} {o : Obj} (hb : b ∈ fp) (e : h.get? b = some o) : (b, o) ∈ pinsAt fp h := List.mem_filterMap.mpr ⟨b, hb, by rw [e]; rfl⟩
theorem of_pinsAt {fp : List Addr} {h : Heap} {p : Addr × Obj} (hp : p ∈ pinsAt fp h) : p.1 ∈ fp ∧ h.get? p.1 = some p.2 := by
  obtain ⟨b, hb, e⟩ := List.mem_filterMap.mp hp
  cases q : h.get? b with
  | none => rw [q] at e; cases e
  | some o =>
    rw [q] at e
    have e' : (b, o) = p := Option.some.inj e
    subst e'
    exact ⟨hb, q⟩
theorem Inv.pinned {pins : List (Addr × Obj)} {σ : St} {H : Hp} {s : Shared} {fp : List Addr} (I : Inv X pins σ H s) (hf : ∀ b ∈ fp, FpOk X pins H b) (ho : ∀ b ∈ fp, ∃ o, s.heap.get? b = some o ∧ ∀ v, o.data ≠ .cell v) : Inv X (pins ++ pinsAt fp s.heap) σ H s :=
  I.pins_of fun p hp => (List.mem_append.mp hp).elim (fun z => I.pin p (List.mem_append_right _ z)) fun z => by
    obtain ⟨hb, e⟩ := of_pinsAt z
    obtain ⟨f0, f1, f2, _⟩ := hf p.1 hb
    obtain ⟨o, e', d⟩ := ho p.1 hb
    rw [e] at e'; cases e'
    exact ⟨e, f0, f1, f2, d⟩
theorem Inv.unpinned {pins pl : List (Addr × Obj)} {σ : St} {H : Hp} {s : Shared} (I : Inv X (pins ++ pl) σ H s) : Inv X pins σ H s := I.pins_of fun p hp => I.pin p (List.mem_append_right _ (List.mem_append_left _ hp))
theorem ps_for {iter : Expr} {body : List Stmt} {wi : TI} {g : TG} {tb : TS} {pos : Pos} (hp : PassesOwn (model X.prog X.w) X.A X.env X.xe) (hc : X.calm = true) (hi : PI X tg iter wi) (hg : PG X tg g) (hb : PSs X body tb)
    (hs : ∀ x, foldedSetIterable iter X.env x = pure x := by intro _; rfl) : PS X (.For tg iter body [] pos) (tFor wi g tb) := by
  intro pins s σ H D I h
  refine wpAny_For (thn (hi pins s σ H _ I h) fun v s1 h1 => thn h1 fun itv s2 h2 => ?_) hs
  obtain ⟨it, fp, tn, J, H2, e, I2, T, st2, f2, W, ⟨m0, w0⟩, turn⟩ := h2
  subst e
  have stat : ∀ {H' : Hp}, (∀ b ∈ fp, H' b = none) → ∀ b ∈ fp, FpOk X pins H' b := fun hn b hb => ⟨hn b hb, (f2 b hb).2⟩
  refine codeAny_forLoop_any (fun n s' => ∃ i σ' H', Inv X pins σ' H' s' ∧ tn i s'.heap ∧ (∀ b ∈ fp, H' b = none) ∧ W i n σ' H') ?_ m0 ⟨0, σ, H2, I2, st2, fun b hb => (f2 b hb).1, w0⟩
  rintro n s3 ⟨i, σ3, H3, I3, st3, fr3, w3⟩
  rcases turn i n σ3 H3 w3 with ⟨stop, qn⟩ | ⟨go, N, hN, step⟩
  · refine wpAny_passesOwn hp (thn (T.done X rfl rfl rfl hc i pins s3 σ3 H3 X.xe I3 (stat fr3) st3 stop) fun r s4 ⟨hr, I4⟩ => ?_)
    subst hr
    exact wpAny_execs_nil ⟨σ3, H3, I4, qn⟩
  · refine wpAny_passesOwn hp (thn (T.item X rfl rfl rfl hc i pins s3 σ3 H3 X.xe I3 (stat fr3) st3 go) fun r s4 ⟨u, hr, h4⟩ => ?_)
    subst hr
    refine wpAny_passesOwn hp (thn h4 fun _ s5 ⟨x, H5, I5, r5, y5, st5, fr5⟩ => ?_)
    have I5' := I5.pinned (stat fr5) (T.obj _ _ st5)
    refine wpAny_passesOwn hp (thn (hg _ s5 σ3 H5 x u _ I5' r5 (step x H5 y5)) fun _ s6 ⟨σ6, H6, I6, q6⟩ => ?_)
    refine wpAny_passesOwn hp (thn (hb _ s6 σ6 H6 _ I6 q6) fun f s7 q7 => ?_)
    have again : ∀ {σ7 : St} {H7 : Hp}, Inv X (pins ++ pinsAt fp s5.heap) σ7 H7 s7 → N σ7 H7 → ∃ m, m < n ∧ ∃ i σ' H', Inv X pins σ' H' s7 ∧ tn i s7.heap ∧ (∀ b ∈ fp, H' b = none) ∧ W i m σ' H' := fun {σ7 H7} I7 n7 => by
      obtain ⟨m', hm, w7⟩ := hN σ7 H7 n7
      refine ⟨m', hm, i + 1, σ7, H7, I7.unpinned, T.keep _ _ _ st5 fun b hb o e => (I7.pin (b, o) (List.mem_append_right _ (List.mem_append_right _ (mem_pinsAt hb e)))).1, fun b hb => ?_, w7⟩
      obtain ⟨o, e, d⟩ := T.obj _ _ st5 b hb
      exact (I7.pin (b, o) (List.mem_append_right _ (List.mem_append_right _ (mem_pinsAt hb e)))).2.1
    cases f with
    | next => obtain ⟨σ7, H7, I7, n7⟩ := q7; exact again I7 n7
    | cont => obtain ⟨σ7, H7, I7, n7⟩ := q7; exact again I7 n7
    | brk => obtain ⟨σ7, H7, I7, q7⟩ := q7; exact ⟨σ7, H7, I7.unpinned, q7⟩
    | ret v => obtain ⟨x7, σ7, H7, I7, r7, q7⟩ := q7; exact ⟨x7, σ7, H7, I7.unpinned, r7, q7⟩
end
theorem for_list {K : PySem.W.Frag} {a : Addr} {xs : List V} {g : TG} {tb : TS} {D : Ends} {σ : St} {H : Hp} (Pv : Nat → St → Hp → Prop) (h0 : Pv 0 σ H) (hl : ∀ i σ H, i ≤ xs.length → Pv i σ H → SqL K H a xs)
    (hs : ∀ i x σ H, xs[i]? = some x → Pv i σ H → g x σ H fun σ2 H2 => tb { D with nx := Pv (i + 1), ct := Pv (i + 1), bk := D.nx } σ2 H2) (hd : ∀ σ H, Pv xs.length σ H → D.nx σ H) :
    ∃ W : Nat → Nat → St → Hp → Prop, (∃ m, W 0 m σ H) ∧ ∀ i m σ H, W i m σ H →
      ((Itl K a).stop i H ∧ D.nx σ H) ∨ ((Itl K a).go i H ∧ ∃ N : St → Hp → Prop, (∀ σ' H', N σ' H' → ∃ m', m' < m ∧ W (i + 1) m' σ' H') ∧ ∀ x H', (Itl K a).yld i H x H' → g x σ H' fun σ2 H2 => tb { D with nx := N, ct := N, bk := D.nx } σ2 H2) := by
  refine ⟨fun i m σ H => m = xs.length - i ∧ i ≤ xs.length ∧ Pv i σ H, ⟨xs.length, by simp, Nat.zero_le _, h0⟩, ?_⟩
  rintro i m σ H ⟨rfl, hi, p⟩
  have q := hl i σ H hi p
  by_cases hlt : i < xs.length
  · refine .inr ⟨⟨xs, xs[i], q, by simp [hlt]⟩, Pv (i + 1), fun σ' H' p' => ⟨xs.length - (i + 1), by omega, rfl, hlt, p'⟩, fun x H' y => ?_⟩
    obtain ⟨e, y⟩ := y
    subst e
    exact hs i x σ _ (y xs q) p
  · have e : i = xs.length := by omega
    subst e
    exact .inl ⟨⟨xs, q, Nat.le_refl _⟩, hd σ H p⟩
theorem for_range {lo : Int} {n : Nat} {g : TG} {tb : TS} {D : Ends} {σ : St} {H : Hp} (Pv : Nat → St → Hp → Prop) (h0 : Pv 0 σ H)
    (hs : ∀ i σ H, i < n → Pv i σ H → g (.int (lo + i)) σ H fun σ2 H2 => tb { D with nx := Pv (i + 1), ct := Pv (i + 1), bk := D.nx } σ2 H2) (hd : ∀ σ H, Pv n σ H → D.nx σ H) :
    ∃ W : Nat → Nat → St → Hp → Prop, (∃ m, W 0 m σ H) ∧ ∀ i m σ H, W i m σ H →
      ((Itr lo n).stop i H ∧ D.nx σ H) ∨ ((Itr lo n).go i H ∧ ∃ N : St → Hp → Prop, (∀ σ' H', N σ' H' → ∃ m', m' < m ∧ W (i + 1) m' σ' H') ∧ ∀ x H', (Itr lo n).yld i H x H' → g x σ H' fun σ2 H2 => tb { D with nx := N, ct := N, bk := D.nx } σ2 H2) := by
  refine ⟨fun i m σ H => m = n - i ∧ i ≤ n ∧ Pv i σ H, ⟨n, by simp, Nat.zero_le _, h0⟩, ?_⟩
  rintro i m σ H ⟨rfl, hi, p⟩
  by_cases hlt : i < n
  · refine .inr ⟨hlt, Pv (i + 1), fun σ' H' p' => ⟨n - (i + 1), by omega, rfl, hlt, p'⟩, fun x H' y => ?_⟩
    obtain ⟨e, y⟩ := y
    subst e y
    exact hs i σ _ hlt p
  · have e : i = n := by omega
    subst e
    exact .inl ⟨Nat.le_refl _, hd σ H p⟩
end L2
namespace L2
open PySem PySem.Spec PyProof.Rows
abbrev R2 := V → V → Hp → VK → Prop
def OpR (X : Cx) (f : Value → Value → Sem Value) (r : R2) : Prop :=
  ∀ (pins : List (Addr × Obj)) (s : Shared) (σ : St) (H : Hp) (x y : V) (v u : Value) (Q : VK), Inv X pins σ H s → RelV x v → RelV y u → r x y H Q →
    wpAny (model X.prog X.w) X.A (f v u) (EP X pins σ Q) X.xe s
def UnR (X : Cx) (f : Value → Sem Value) (r : V → Hp → VK → Prop) : Prop :=
  ∀ (pins : List (Addr × Obj)) (s : Shared) (σ : St) (H : Hp) (x : V) (v : Value) (Q : VK), Inv X pins σ H s → RelV x v → r x H Q →
    wpAny (model X.prog X.w) X.A (f v) (EP X pins σ Q) X.xe s
def CallR (X : Cx) (f : Value) (r : List V → Hp → VK → Prop) : Prop :=
  ∀ (pins : List (Addr × Obj)) (s : Shared) (σ : St) (H : Hp) (xs : List V) (us : List Value) (Q : VK), Inv X pins σ H s → Vals xs us → r xs H Q →
    wpAny (model X.prog X.w) X.A (call f us) (EP X pins σ Q) X.xe s
def TruR (X : Cx) (r : V → Hp → (Bool → Hp → Prop) → Prop) : Prop :=
  ∀ (pins : List (Addr × Obj)) (s : Shared) (σ : St) (H : Hp) (x : V) (v : Value) (Q : Bool → Hp → Prop), Inv X pins σ H s → RelV x v → r x H Q →
    wpAny (model X.prog X.w) X.A (truthy v) (TP X pins σ Q) X.xe s
def tOp (r : R2) (ta tb : TE) : TE := fun σ H Q => ta σ H fun x H1 => tb σ H1 fun y H2 => r x y H2 Q
def tUn (r : V → Hp → VK → Prop) (ta : TE) : TE := fun σ H Q => ta σ H fun x H1 => r x H1 Q
def rI (C : Int → Int → Prop) (g : Int → Int → V) : R2 := fun x y H Q => ∃ i j, x = .int i ∧ y = .int j ∧ C i j ∧ Q (g i j) H
def rI0 (g : Int → Int → V) : R2 := fun x y H Q => ∃ i j, x = .int i ∧ y = .int j ∧ Q (g i j) H
def rU (g : Int → V) : V → Hp → VK → Prop := fun x H Q => ∃ i, x = .int i ∧ Q (g i) H
section
variable {X : Cx} {a b c : Expr} {ta tb tc : TE} {pos : Pos}
theorem binT (ha : PE X a ta) (hb : PE X b tb) {pins : List (Addr × Obj)} {s : Shared} {σ : St} {H : Hp} {R : V → V → Hp → Prop} (I : Inv X pins σ H s)
    (h : ta σ H fun x H1 => tb σ H1 fun y H2 => R x y H2) {Q : Value → Shared → Prop} {f : Value → Value → Sem Value}
    (hf : ∀ v u s2 x y H2, Inv X pins σ H2 s2 → RelV x v → RelV y u → R x y H2 → wpAny (model X.prog X.w) X.A (f v u) Q X.xe s2) :
    wpAny (model X.prog X.w) X.A (eval a X.env) (fun v s₁ => wpAny (model X.prog X.w) X.A (eval b X.env) (fun u s₂ => wpAny (model X.prog X.w) X.A (f v u) Q X.xe s₂) X.xe s₁) X.xe s := by
  refine thn (ha pins s σ H _ I h) fun v s1 ⟨x, H1, I1, r1, q1⟩ => ?_
  refine thn (hb pins s1 σ H1 _ I1 q1) fun u s2 ⟨y, H2, I2, r2, q2⟩ => ?_
  exact hf v u s2 x y H2 I2 r1 r2 q2
theorem pe_op {op : Operator} {r : R2} (ho : OpR X (binaryOp op) r) (ha : PE X a ta) (hb : PE X b tb) : PE X (.BinOp a op b pos) (tOp r ta tb) := by
  intro pins s σ H Q I h
  exact wpAny_BinOp (binT ha hb I h fun v u s2 x y H2 I2 rx ry q => ho pins s2 σ H2 x y v u Q I2 rx ry q)
theorem opI {f : Value → Value → Sem Value} {C : Int → Int → Prop} {g : Int → Int → Int}
    (rule : ∀ (i j : Int) (t u : Tok) (s : Shared) (Q : Value → Shared → Prop) (E : Value → Shared → Prop), C i j → Q (.int (g i j) s.toks) { s with toks := s.toks + 1 } → wpAny (model X.prog X.w) X.A (f (.int i t) (.int j u)) Q E s) :
    OpR X f (rI C fun i j => .int (g i j)) := by
  intro pins s σ H x y v u Q I rx ry h
  obtain ⟨i, j, rfl, rfl, hc, q⟩ := h
  obtain ⟨t, rfl⟩ := rx
  obtain ⟨t', rfl⟩ := ry
  exact rule i j t t' s _ _ hc ⟨.int (g i j), H, I.tok _, ⟨_, rfl⟩, q⟩
theorem opI0 {f : Value → Value → Sem Value} {g : Int → Int → Int}
    (rule : ∀ (i j : Int) (t u : Tok) (s : Shared) (Q : Value → Shared → Prop) (E : Value → Shared → Prop), Q (.int (g i j) s.toks) { s with toks := s.toks + 1 } → wpAny (model X.prog X.w) X.A (f (.int i t) (.int j u)) Q E s) :
    OpR X f (rI0 fun i j => .int (g i j)) := by
  intro pins s σ H x y v u Q I rx ry h
  obtain ⟨i, j, rfl, rfl, q⟩ := h
  obtain ⟨t, rfl⟩ := rx
  obtain ⟨t', rfl⟩ := ry
  exact rule i j t t' s _ _ ⟨.int (g i j), H, I.tok _, ⟨_, rfl⟩, q⟩
theorem opB0 {f : Value → Value → Sem Value} {g : Int → Int → Bool}
    (rule : ∀ (i j : Int) (t u : Tok) (s : Shared) (Q : Value → Shared → Prop) (E : Value → Shared → Prop), Q (.bool (g i j)) s → wpAny (model X.prog X.w) X.A (f (.int i t) (.int j u)) Q E s) :
    OpR X f (rI0 fun i j => .bl (g i j)) := by
  intro pins s σ H x y v u Q I rx ry h
  obtain ⟨i, j, rfl, rfl, q⟩ := h
  obtain ⟨t, rfl⟩ := rx
  obtain ⟨t', rfl⟩ := ry
  exact rule i j t t' s _ _ ⟨.bl (g i j), H, I, rfl, q⟩
def CDiv (i j : Int) : Prop := 0 < j ∧ j < 1073741824
def CDivN (i j : Int) : Prop := j ≠ 0 ∧ j.natAbs < 1073741824
def CPow (i j : Int) : Prop := 0 ≤ j ∧ j ≤ 1000000 ∧ i.natAbs < 2 ^ 64
def CMul (i j : Int) : Prop := (-(2 ^ 64) < i ∧ i < 2 ^ 64) ∨ (-(2 ^ 64) < j ∧ j < 2 ^ 64)
theorem CMul.ok {i j : Int} (h : CMul i j) : IntMulOk i j := by
  rcases h with ⟨h1, h2⟩ | ⟨h1, h2⟩
  · exact .of_left (intBits_le_64 h1 h2)
  · exact .of_right (intBits_le_64 h1 h2)
theorem two_pow_nn (k : Nat) : (0 : Int) ≤ 2 ^ k := by
  rw [two_pow_cast]
  exact Int.natCast_nonneg _
theorem op_add : OpR X (binaryOp .Add) (rI0 fun i j => .int (i + j)) := opI0 fun _ _ _ _ _ _ _ q => add_int q
theorem op_sub : OpR X (binaryOp .Sub) (rI0 fun i j => .int (i - j)) := opI0 fun _ _ _ _ _ _ _ q => sub_int q
theorem op_mod : OpR X (binaryOp .Mod) (rI (fun _ j => 0 < j) fun i j => .int (i % j)) := opI fun i j _ _ _ _ _ hc q => by
  have h1 : (0 : Int) < j := hc
  exact mod_int' (by omega) (by rw [Int.fmod_eq_emod_of_nonneg i (by omega)]; exact q)
theorem op_pow : OpR X (binaryOp .Pow) (rI CPow fun i j => .int (i ^ j.toNat)) := opI fun _ _ _ _ _ _ _ hc q => pow_int_small hc.1 hc.2.1 hc.2.2 q
theorem op_shr : OpR X (binaryOp .RShift) (rI (fun _ j => 0 ≤ j) fun i j => .int (i / 2 ^ j.toNat)) := opI fun i j _ _ _ _ _ hc q =>
  rshift_int hc (by rw [Int.fdiv_eq_ediv_of_nonneg i (two_pow_nn _)]; exact q)
end
def scal : V → V → Bool
  | .non, .non => true | .non, .int _ => true | .int _, .non => true | .non, .bl _ => true | .bl _, .non => true | .non, .str _ => true | .str _, .non => true
  | .int _, .int _ => true | .bl _, .bl _ => true | .str _, .str _ => true | .byt _, .byt _ => true
  | .int _, .str _ => true | .str _, .int _ => true | .bl _, .str _ => true | .str _, .bl _ => true
  | _, _ => false
def rEq : R2 := fun x y H Q => scal x y = true ∧ Q (.bl (decide (x = y))) H
def rNe : R2 := fun x y H Q => scal x y = true ∧ Q (.bl (!decide (x = y))) H
theorem dec_int {i j : Int} : decide (V.int i = V.int j) = (i == j) := by
  rw [Bool.eq_iff_iff]
  simp
theorem dec_bl {i j : Bool} : decide (V.bl i = V.bl j) = (i == j) := by
  rw [Bool.eq_iff_iff]
  simp
theorem dec_str {i j : Str} : decide (V.str i = V.str j) = (i == j) := by
  rw [Bool.eq_iff_iff]
  simp
theorem dec_byt {i j : Array UInt8} : decide (V.byt i = V.byt j) = (i.toList == j.toList) := by
  rw [Bool.eq_iff_iff]
  cases i
  cases j
  simp
section
variable {X : Cx} {a b c : Expr} {ta tb tc : TE} {pos : Pos}
theorem fin_bl {pins : List (Addr × Obj)} {σ : St} {H : Hp} {s : Shared} {Q : VK} {k k' : Bool} (I : Inv X pins σ H s) (q : Q (.bl k) H) (e : k = k') : EP X pins σ Q (.bool k') s := by
  subst e
  exact ⟨.bl k, H, I, rfl, q⟩
theorem op_eq : OpR X (compareOp .Eq) rEq := by
  intro pins s σ H x y v u Q I rx ry h
  obtain ⟨hs, q⟩ := h
  cases x with
  | non =>
    cases rx
    cases y with
    | non => cases ry; exact PySem.EqNone.eq_none_none (fin_bl I q (by simp))
    | bl j => cases ry; exact PySem.EqNone.eq_none_bool (fin_bl I q (by simp))
    | int j => obtain ⟨t', rfl⟩ := ry; exact PySem.EqNone.eq_none_int (fin_bl I q (by simp))
    | str j => obtain ⟨t', rfl⟩ := ry; exact PySem.EqNone.eq_none_str (fin_bl I q (by simp))
    | _ => exact absurd (show false = true from hs) Bool.false_ne_true
  | bl i =>
    cases rx
    cases y with
    | non => cases ry; exact PySem.EqNone.eq_bool_none (fin_bl I q (by simp))
    | bl j => cases ry; exact eq_bool (fin_bl I q dec_bl)
    | str j => obtain ⟨t', rfl⟩ := ry; exact PySem.EqMixed.eq_bool_str (fin_bl I q (by simp))
    | _ => exact absurd (show false = true from hs) Bool.false_ne_true
  | int i =>
    obtain ⟨t, rfl⟩ := rx
    cases y with
    | non => cases ry; exact PySem.EqNone.eq_int_none (fin_bl I q (by simp))
    | int j => obtain ⟨t', rfl⟩ := ry; exact eq_int (fin_bl I q dec_int)
    | str j => obtain ⟨t', rfl⟩ := ry; exact PySem.EqMixed.eq_int_str (fin_bl I q (by simp))
    | _ => exact absurd (show false = true from hs) Bool.false_ne_true
  | str i =>
    obtain ⟨t, rfl⟩ := rx
    cases y with
    | non => cases ry; exact PySem.EqNone.eq_str_none (fin_bl I q (by simp))
    | bl j => cases ry; exact PySem.EqMixed.eq_str_bool (fin_bl I q (by simp))
    | int j => obtain ⟨t', rfl⟩ := ry; exact PySem.EqMixed.eq_str_int (fin_bl I q (by simp))
    | str j => obtain ⟨t', rfl⟩ := ry; exact eq_str (fin_bl I q dec_str)
    | _ => exact absurd (show false = true from hs) Bool.false_ne_true
  | byt i =>
    obtain ⟨t, rfl⟩ := rx
    cases y with
    | byt j => obtain ⟨t', rfl⟩ := ry; exact PySem.W.eq_bytes (fin_bl I q dec_byt)
    | _ => exact absurd (show false = true from hs) Bool.false_ne_true
  | _ => cases y <;> exact absurd (show false = true from hs) Bool.false_ne_true
theorem op_ne : OpR X (compareOp .NotEq) rNe := by
  intro pins s σ H x y v u Q I rx ry h
  obtain ⟨hs, q⟩ := h
  cases x with
  | non =>
    cases rx
    cases y with
    | non => cases ry; exact PySem.EqNone.ne_none_none (fin_bl I q (by simp))
    | bl j => cases ry; exact PySem.EqNone.ne_none_bool (fin_bl I q (by simp))
    | int j => obtain ⟨t', rfl⟩ := ry; exact PySem.EqNone.ne_none_int (fin_bl I q (by simp))
    | str j => obtain ⟨t', rfl⟩ := ry; exact PySem.EqNone.ne_none_str (fin_bl I q (by simp))
    | _ => exact absurd (show false = true from hs) Bool.false_ne_true
  | bl i =>
    cases rx
    cases y with
    | non => cases ry; exact PySem.EqNone.ne_bool_none (fin_bl I q (by simp))
    | bl j => cases ry; exact ne_bool (fin_bl I q (congrArg not dec_bl))
    | str j => obtain ⟨t', rfl⟩ := ry; exact PySem.EqMixed.ne_bool_str (fin_bl I q (by simp))
    | _ => exact absurd (show false = true from hs) Bool.false_ne_true
  | int i =>
    obtain ⟨t, rfl⟩ := rx
    cases y with
    | non => cases ry; exact PySem.EqNone.ne_int_none (fin_bl I q (by simp))
    | int j => obtain ⟨t', rfl⟩ := ry; exact ne_int (fin_bl I q (congrArg not dec_int))
    | str j => obtain ⟨t', rfl⟩ := ry; exact PySem.EqMixed.ne_int_str (fin_bl I q (by simp))
    | _ => exact absurd (show false = true from hs) Bool.false_ne_true
  | str i =>
    obtain ⟨t, rfl⟩ := rx
    cases y with
    | non => cases ry; exact PySem.EqNone.ne_str_none (fin_bl I q (by simp))
    | bl j => cases ry; exact PySem.EqMixed.ne_str_bool (fin_bl I q (by simp))
    | int j => obtain ⟨t', rfl⟩ := ry; exact PySem.EqMixed.ne_str_int (fin_bl I q (by simp))
    | str j => obtain ⟨t', rfl⟩ := ry; exact ne_str (fin_bl I q (congrArg not dec_str))
    | _ => exact absurd (show false = true from hs) Bool.false_ne_true
  | byt i =>
    obtain ⟨t, rfl⟩ := rx
    cases y with
    | byt j => obtain ⟨t', rfl⟩ := ry; exact PySem.W.ne_bytes (fin_bl I q (congrArg not dec_byt))
    | _ => exact absurd (show false = true from hs) Bool.false_ne_true
  | _ => cases y <;> exact absurd (show false = true from hs) Bool.false_ne_true
theorem op_lt : OpR X (compareOp .Lt) (rI0 fun i j => .bl (decide (i < j))) := opB0 fun _ _ _ _ _ _ _ q => lt_int q
theorem op_le : OpR X (compareOp .LtE) (rI0 fun i j => .bl (decide (i ≤ j))) := opB0 fun _ _ _ _ _ _ _ q => le_int q
theorem op_gt : OpR X (compareOp .Gt) (rI0 fun i j => .bl (decide (j < i))) := opB0 fun _ _ _ _ _ _ _ q => gt_int q
theorem op_ge : OpR X (compareOp .GtE) (rI0 fun i j => .bl (decide (j ≤ i))) := opB0 fun _ _ _ _ _ _ _ q => ge_int q
theorem op_isN : OpR X (compareOp .Is) (fun x y H Q => y = .non ∧ Q (.bl (decide (x = .non))) H) := by
  intro pins s σ H x y v u Q I rx ry h
  obtain ⟨rfl, q⟩ := h
  cases ry
  refine is_none_gen (fin_bl I q ?_)
  cases x <;> first
    | (cases rx; rfl)
    | (obtain ⟨t, rfl⟩ := rx; rfl)
def isObj : HO → Bool
  | .lst _ => true
  | .ins _ _ _ => true
  | _ => false
theorem OpR.or {f : Value → Value → Sem Value} {r r' : R2} (h : OpR X f r) (h' : OpR X f r') : OpR X f (fun x y H Q => r x y H Q ∨ r' x y H Q) := by
  intro pins s σ H x y v u Q I rx ry q
  rcases q with q | q
  · exact h pins s σ H x y v u Q I rx ry q
  · exact h' pins s σ H x y v u Q I rx ry q
theorem nomark (b : Expr) {op : CmpOp} (h : op ≠ .In := by decide) (h2 : op ≠ .NotIn := by decide) : behindInMarks op b = false := by
  have e1 : (op == CmpOp.In) = false := by cases op <;> first | rfl | exact absurd rfl h
  have e2 : (op == CmpOp.NotIn) = false := by cases op <;> first | rfl | exact absurd rfl h2
  cases b <;> simp [behindInMarks, e1, e2]
theorem pe_cmpR {op : CmpOp} {r : R2} (ho : OpR X (compareOp op) r) (ha : PE X a ta) (hb : PE X b tb) (hm : behindInMarks op b = false) : PE X (.Compare a [op] [b] pos) (tOp r ta tb) := by
  intro pins s σ H Q I h
  exact wpAny_Compare1 (binT ha hb I h fun v u s2 x y H2 I2 rx ry q => ho pins s2 σ H2 x y v u Q I2 rx ry q) hm
def tTest (t : TE) : TT := fun σ H Q => t σ H fun x H' => ∃ k, x = .bl k ∧ Q k H'
theorem pt_cmpR {op : CmpOp} {r : R2} (ho : OpR X (compareOp op) r) (ha : PE X a ta) (hb : PE X b tb) (hm : behindInMarks op b = false) : PT X (.Compare a [op] [b] pos) (tTest (tOp r ta tb)) := by
  intro pins s σ H Q I h
  refine wpAny_isTrue_Compare1 (thn (ha pins s σ H _ I h) fun v s1 ⟨x, H1, I1, r1, q1⟩ => thn (hb pins s1 σ H1 _ I1 q1) fun u s2 ⟨y, H2, I2, r2, q2⟩ =>
    thn (ho pins s2 σ H2 x y v u _ I2 r1 r2 q2) fun c s3 ⟨z, H3, I3, r3, k, e, q3⟩ => ?_) hm
  subst e
  cases r3
  exact wpAny_truthy_bool ⟨H3, I3, q3⟩
def tChain (r r' : R2) (ta tb tc : TE) : TE := fun σ H Q => ta σ H fun x H1 => tb σ H1 fun y H2 => r x y H2 fun z H3 => ∃ k, z = .bl k ∧
  (if k = true then tc σ H3 fun w' H4 => r' y w' H4 Q else Q (.bl false) H3)
theorem pt_chain {op op' : CmpOp} {r r' : R2} (ho : OpR X (compareOp op) r) (ho' : OpR X (compareOp op') r') (ha : PE X a ta) (hb : PE X b tb) (hc : PE X c tc)
    (hm : lastMarks [op, op'] [b, c] = false := by with_unfolding_all rfl) : PT X (.Compare a [op, op'] [b, c] pos) (tTest (tChain r r' ta tb tc)) := by
  intro pins s σ H Q I h
  refine isTrue_chain (thn (ha pins s σ H _ I h) fun v s1 ⟨x, H1, I1, r1, q1⟩ => test_link (thn (hb pins s1 σ H1 _ I1 q1) fun u s2 ⟨y, H2, I2, r2, q2⟩ =>
    thn (ho pins s2 σ H2 x y v u _ I2 r1 r2 q2) fun d s3 ⟨z, H3, I3, r3, k, e, q3⟩ => ?_)) hm
  subst e
  cases r3
  refine wpAny_truthy_bool ?_
  cases k with
  | false =>
    obtain ⟨k', e', q'⟩ := q3
    cases e'
    exact ite_ff ⟨H3, I3, q'⟩
  | true =>
    refine ite_tt (test_last (thn (hc pins s3 σ H3 _ I3 q3) fun w' s4 ⟨z', H4, I4, r4, q4⟩ => thn (ho' pins s4 σ H4 y z' u w' _ I4 r2 r4 q4) fun d' s5 ⟨z2, H5, I5, r5, k2, e2, q5⟩ => ?_))
    subst e2
    cases r5
    exact wpAny_truthy_bool ⟨H5, I5, q5⟩
def TruV (K : PySem.W.Frag) (x : V) (H : Hp) (k : Bool) : Prop :=
  match x with
  | .non => k = false
  | .bl b => k = b
  | .int i => k = (i != 0)
  | .str y => y.length ≤ sizeLine ∧ k = ((y.length : Int) != 0)
  | .byt y => y.size ≤ sizeLine ∧ k = ((y.size : Int) != 0)
  | .ref p => (∃ xs, SqL K H p xs ∧ k = !xs.isEmpty) ∨ (∃ xs, SqT K H p xs ∧ k = !xs.isEmpty) ∨ ∃ kvs, H p = some (.dK kvs) ∧ k = !kvs.isEmpty
  | _ => False
theorem line63 : (sizeLine : Nat) < 2 ^ 63 := by rw [sizeLine_eq]; decide
theorem op_add_str : OpR X (binaryOp .Add) (fun x y H Q => ∃ i j, x = .str i ∧ y = .str j ∧ i.length + j.length ≤ sizeLine ∧ Q (.str (i ++ j)) H) := by
  intro pins s σ H x y v u Q I rx ry h
  obtain ⟨i, j, rfl, rfl, hz, q⟩ := h
  obtain ⟨t, rfl⟩ := rx
  obtain ⟨t', rfl⟩ := ry
  exact add_str (fun t' tk => ⟨.str (i ++ j), H, I.tok _, ⟨_, rfl⟩, q⟩) hz
def PlainIxT (b : Expr) : Prop := ∀ o i, subscripted b false o i = operate [o, i] (getItem o i)
theorem vals1 {x : V} {us : List Value} (r : Vals [x] us) : ∃ u, us = [u] ∧ RelV x u := by
  cases r with
  | cons r1 r2 => cases r2; exact ⟨_, rfl, r1⟩
theorem vals2 {x y : V} {us : List Value} (r : Vals [x, y] us) : ∃ u w', us = [u, w'] ∧ RelV x u ∧ RelV y w' := by
  cases r with
  | cons r1 r2 =>
    cases r2 with
    | cons r3 r4 => cases r4; exact ⟨_, _, rfl, r1, r3⟩
theorem call_max2 (hc : X.calm = true) : CallR X (.builtin "max") (fun xs H Q => ∃ i j, xs = [.int i, .int j] ∧ Q (.int (if j > i then j else i)) H) := by
  intro pins s σ H xs us Q I r h
  obtain ⟨i, j, rfl, q⟩ := h
  obtain ⟨u, w', rfl, ⟨t, rfl⟩, ⟨t', rfl⟩⟩ := vals2 r
  refine max_two_ints (I.ok.hd hc) fun h' tk k => ⟨_, H, I.kept k, ?_, q⟩
  by_cases hj : j > i
  · rw [if_pos hj, if_pos hj]; exact ⟨_, rfl⟩
  · rw [if_neg hj, if_neg hj]; exact ⟨_, rfl⟩
theorem call_int1 : CallR X (.type "int") (fun xs H Q => (∃ i, xs = [.int i] ∧ Q (.int i) H) ∨ ∃ k, xs = [.bl k] ∧ Q (.int (if k then 1 else 0)) H) := by
  intro pins s σ H xs us Q I r h
  rcases h with ⟨i, rfl, q⟩ | ⟨k, rfl, q⟩
  · obtain ⟨u, rfl, t, rfl⟩ := vals1 r
    exact call_int_int ⟨.int i, H, I, ⟨_, rfl⟩, q⟩
  · obtain ⟨u, rfl, r1⟩ := vals1 r
    cases r1
    exact call_int_bool ⟨.int (if k then 1 else 0), H, I.tok _, ⟨_, rfl⟩, q⟩
def LenV (K : PySem.W.Frag) (x : V) (H : Hp) (n : Nat) : Prop :=
  match x with
  | .str y => y.length ≤ sizeLine ∧ n = y.length
  | .byt y => y.size ≤ sizeLine ∧ n = y.size
  | .ref p => (∃ xs, SqL K H p xs ∧ n = xs.length) ∨ ∃ xs, SqT K H p xs ∧ n = xs.length
  | _ => False
end
end L2
namespace L2
open PySem PySem.Spec PyProof.Rows
structure ObjM (h : Heap) (x dx C : Addr) (mA : Str → Option Value) : Prop where
  obj : h.get? x = some (PySem.W.instObj C dx)
  ns : h.Ns1 dx mA
  ne : dx ≠ x
theorem lookIn_ns {h : Heap} {dx : Addr} {mA : Str → Option Value} (n : h.Ns1 dx mA) : ∃ od, h.get? dx = some od ∧ ∀ name, PySem.W.lookIn name od = some (mA name) := by
  obtain ⟨o, es, ep, ho, hd, hk, _, hm⟩ := n
  refine ⟨o, ho, fun name => ?_⟩
  have e := hm name
  unfold nsFind findBy at e
  rw [← Array.find?_toList] at e
  unfold PySem.W.lookIn
  rw [hd]
  dsimp only
  split
  · rename_i y q
    rw [q] at e
    exact congrArg some e
  · rename_i q
    rw [q] at e
    have a : es.toList.any (·.refKey) = false := by
      rw [List.any_eq_false]
      intro y hy
      obtain ⟨z, t, hkey⟩ := hk y (Array.mem_toList_iff.mp hy)
      simp [DictEntry.refKey, hkey]
    have a' : ¬ es.toList.any (·.refKey) = true := by rw [a]; exact Bool.false_ne_true
    rw [if_neg a']
    exact congrArg some e
theorem ObjM.look {h : Heap} {x dx C : Addr} {mA : Str → Option Value} (I : ObjM h x dx C mA) : ∃ od, PySem.W.InstAt h x (PySem.W.instObj C dx) C (some od) ∧ ∀ name, PySem.W.lookIn name od = some (mA name) :=
  let ⟨od, ho, hl⟩ := lookIn_ns I.ns
  ⟨od, ⟨I.obj, rfl, rfl, ho⟩, hl⟩
section
variable {prog : Program} {w : World} {A : Around} {E : Value → Shared → Prop} {s : Shared} {K : PySem.W.Frag} {x dx C f : Addr} {mA : Str → Option Value} {name : Str} {v : Value}
end
def putF (f : Str) (v : V) : List (Str × V) → List (Str × V)
  | [] => [(f, v)]
  | (g, x) :: r => if g = f then (g, v) :: r else (g, x) :: putF f v r
section
variable {P : Program} {w : World} {H H' : Hp} {h h' : Heap} {a C dx : Addr} {fs fs' : List (Str × V)}
theorem ins_get (hok : HOk P w H h) (e : H a = some (.ins C dx fs)) : ∃ mA, ObjM h a dx C mA ∧ (∀ f, RelO (fs.lookup f) (mA f)) ∧ PySem.Within mA (fs.map (·.1)) ∧ fs.length ≤ 1000 ∧ H dx = some (.own a) := by
  obtain ⟨d, z, ne, ob, mA, n, r, q⟩ := (show ObjOk P w H h a (.ins C dx fs) from hok a _ e)
  exact ⟨mA, ⟨ob, n, ne⟩, r, q, z, d⟩
end
structure Cls (K : PySem.W.Frag) (C : Addr) : Prop where
  pg : PySem.W.plainGet K C Str.empty = true
  hd : PySem.W.hasDictIn K C = true
  po : PySem.W.plainOver K C = true
  sa : PySem.W.findIn K (.ref C) "__setattr__" = some (some (.builtin "object.__setattr__"))
theorem Cls.get {K : PySem.W.Frag} {C : Addr} (c : Cls K C) (f : Str) : PySem.W.plainGet K C f = true := c.pg
def NoAttr (K : PySem.W.Frag) (C : Addr) (f : Str) : Prop := PySem.W.findIn K (.ref C) f = some none
structure Con (K : PySem.W.Frag) (C : Addr) (f : Str) (v : V) (u : Value) : Prop where
  at_ : PySem.W.findIn K (.ref C) f = some (some u)
  rel : RelV v u
  get : PySem.W.specialIn K u "__get__" = some none
  cp : PySem.W.copiedNames.contains f = false
structure Meth (K : PySem.W.Frag) (C : Addr) (m : Str) (f : Addr) : Prop where
  at_ : PySem.W.findIn K (.ref C) m = some (some (.ref f))
  fn : PySem.W.isFn K (.ref f) = true
  kp : PySem.W.keepIn K (.ref f) = true
section
variable {X : Cx} {pins : List (Addr × Obj)} {σ : St} {H : Hp} {s : Shared} {a C dx : Addr} {fs : List (Str × V)} {f : Str} {v : V} {A : Around} {E : Value → Shared → Prop}
theorem Inv.made (I : Inv X pins σ H s) : Inv X pins σ (upd (upd H s.heap.objs.size (.own (s.heap.objs.size + 1))) (s.heap.objs.size + 1) (.ins C s.heap.objs.size []))
    { s with heap := (s.heap.push PySem.W.emptyDict).push (PySem.W.instObj C s.heap.objs.size) } := by
  have e1 : (s.heap.push PySem.W.emptyDict).get? s.heap.objs.size = some PySem.W.emptyDict := Heap.get?_push_size s.heap rfl
  have e2 : ((s.heap.push PySem.W.emptyDict).push (PySem.W.instObj C s.heap.objs.size)).get? (s.heap.objs.size + 1) = some (PySem.W.instObj C s.heap.objs.size) := by
    have := Heap.get?_push_size (s.heap.push PySem.W.emptyDict) (o := PySem.W.instObj C s.heap.objs.size) rfl
    rwa [Heap.size_push] at this
  have e3 : (s.heap.push PySem.W.emptyDict).Ns s.heap.objs.size (fun _ => none) := ⟨PySem.W.emptyDict, #[], _, e1, rfl, (fun e he => absurd he (by simp)), fun _ => rfl⟩
  have I1 := I.laid (a := s.heap.objs.size) (o := .own (s.heap.objs.size + 1)) (h' := s.heap.push PySem.W.emptyDict) (t' := s.toks) (fun b u q => Heap.get?_push_of_some _ q) (Nat.le_refl _) ⟨_, e1⟩
  refine I1.laid (a := s.heap.objs.size + 1) (o := .ins C s.heap.objs.size []) (t' := s.toks) (fun b u q => Heap.get?_push_of_some _ q) (Nat.le_of_eq (Heap.size_push _ _)) ?_
  have ne : s.heap.objs.size ≠ s.heap.objs.size + 1 := Nat.ne_of_lt (Nat.lt_succ_self _)
  refine ⟨by rw [upd_ne ne, upd_same], Nat.zero_le _, ne, e2, fun _ => none, (Heap.Ns1.of_empty e3).at fun o q => Heap.get?_push_of_some _ q, fun _ => True.intro, fun y hy => absurd rfl hy⟩
end
def tFld (K : PySem.W.Frag) (ta : TE) (f : Str) : TE := fun σ H Q => ta σ H fun x H1 => ∃ a C dx fs v, x = .ref a ∧ H1 a = some (.ins C dx fs) ∧ Cls K C ∧ NoAttr K C f ∧ fs.lookup f = some v ∧ Q v H1
def tCon (K : PySem.W.Frag) (ta : TE) (f : Str) : TE := fun σ H Q => ta σ H fun x H1 => ∃ a C dx fs v u, x = .ref a ∧ H1 a = some (.ins C dx fs) ∧ Cls K C ∧ Con K C f v u ∧ fs.lookup f = none ∧ Q v H1
def sFld (K : PySem.W.Frag) (ta tv : TE) (f : Str) : TS := fun D σ H => tv σ H fun y H1 => ta σ H1 fun x H2 => ∃ a C dx fs, x = .ref a ∧ H2 a = some (.ins C dx fs) ∧ Cls K C ∧ NoAttr K C f ∧ fs.length < 1000 ∧
  D.nx σ (upd H2 a (.ins C dx (putF f y fs)))
def InOp (X : Cx) (op : Operator) (rd : V → V → Hp → VK → Prop) : Prop :=
  ∀ (pins : List (Addr × Obj)) (s : Shared) (σ : St) (H : Hp) (x y : V) (u v : Value) (Q : VK), Inv X pins σ H s → RelV x u → RelV y v → rd x y H Q → wpAny (model X.prog X.w) X.A (inplaceOp op u v) (EP X pins σ Q) X.xe s
def sFldAug (K : PySem.W.Frag) (ta tv : TE) (rd : V → V → Hp → VK → Prop) (f : Str) : TS := fun D σ H => ta σ H fun x H1 => ∃ a C dx fs v, x = .ref a ∧ H1 a = some (.ins C dx fs) ∧ Cls K C ∧ NoAttr K C f ∧ fs.lookup f = some v ∧
  tv σ H1 fun y H2 => rd v y H2 fun z H3 => ∃ dx' fs', H3 a = some (.ins C dx' fs') ∧ fs'.length < 1000 ∧ D.nx σ (upd H3 a (.ins C dx' (putF f z fs')))
section
variable {X : Cx} {o e value : Expr} {f : Str} {pos pos' tpos : Pos} {ta tv : TE}
def rAdd : V → V → Hp → VK → Prop := fun x y H Q => ∃ i j, x = .int i ∧ y = .int j ∧ Q (.int (i + j)) H
def rSub : V → V → Hp → VK → Prop := fun x y H Q => ∃ i j, x = .int i ∧ y = .int j ∧ Q (.int (i - j)) H
end
section
variable {X : Cx} {pins : List (Addr × Obj)} {σ : St} {H : Hp} {s : Shared} {A : Around} {E : Value → Shared → Prop} {Q : Value → Shared → Prop} {c : Value} {b : Bool}
inductive TyOf (K : PySem.W.Frag) (H : Hp) : V → Value → Prop where
  | non : TyOf K H .non (.type "NoneType")
  | bl (x : Bool) : TyOf K H (.bl x) (.type "bool")
  | int (i : Int) : TyOf K H (.int i) (.type "int")
  | str (x : Str) : TyOf K H (.str x) (.type "str")
  | flt (x : UInt64) : TyOf K H (.flt x) (.type "float")
  | lst {a : Addr} {xs : List V} (e : H a = some (.lst xs)) : TyOf K H (.ref a) (.type "list")
  | frz {a : Addr} {o : Obj} {xs : List V} (e : H a = some (.frz o (.lst xs))) : TyOf K H (.ref a) (.type "list")
  | tup {a : Addr} {xs : List V} (e : H a = some (.tup xs)) : TyOf K H (.ref a) (.type "tuple")
  | dK {a : Addr} {kvs : List (Key × V)} (e : H a = some (.dK kvs)) : TyOf K H (.ref a) (.type "dict")
  | dT {a : Addr} {kvs : List (List Key × V)} (e : H a = some (.dT kvs)) : TyOf K H (.ref a) (.type "dict")
  | ins {a C dx : Addr} {fs : List (Str × V)} (e : H a = some (.ins C dx fs)) (cl : Cls K C) (ha : PySem.W.findIn K (.ref C) "__class__" = some (some (.builtin "object.__class__")))
      (hn : PySem.W.specialIn K (.builtin "object.__class__") "__get__" = some (some (.builtin "getset_descriptor.__get__"))) (htk : PySem.W.takesIn K (.builtin "object.__class__") = some true)
      (hm : PySem.W.mroIn K C (.type "object") = some true) : TyOf K H (.ref a) (.ref C)
theorem isinst_ok {x : V} {u t : Value} (I : Inv X pins σ H s) (rx : RelV x u) (ty : TyOf X.K H x t) (e : PySem.W.kitOne X.K t c = some b) (h : ∀ tk, Q (.bool b) { s with toks := tk }) :
    wpAny (model X.prog X.w) A (call (.builtin "isinstance") [u, c]) Q E s := by
  cases ty with
  | non => cases (show u = Value.none from rx); exact PySem.W.kia_one PySem.W.kitx_none I.kIn True.intro e (fun z => nomatch z) h
  | bl y => cases (show u = Value.bool y from rx); exact PySem.W.kia_one PySem.W.kitx_bool I.kIn True.intro e (fun z => nomatch z) h
  | int i => obtain ⟨t, q⟩ := (show ∃ t, u = Value.int i t from rx); cases q; exact PySem.W.kia_one PySem.W.kitx_int I.kIn True.intro e (fun z => nomatch z) h
  | str y => obtain ⟨t, q⟩ := (show ∃ t, u = Value.str y t from rx); cases q; exact PySem.W.kia_one PySem.W.kitx_str I.kIn True.intro e (fun z => nomatch z) h
  | flt y => obtain ⟨t, q⟩ := (show ∃ t, u = Value.float y t from rx); cases q; exact PySem.W.kia_one PySem.W.kitx_float I.kIn True.intro e (fun z => nomatch z) h
  | @lst a xs ea =>
    cases (show u = Value.ref a from rx)
    obtain ⟨_, _, n, _, h1⟩ := (show ObjOk X.prog X.w H s.heap a (.lst xs) from I.hok a _ ea)
    exact PySem.W.kia_one PySem.W.kitx_list I.kIn ⟨_, h1, rfl⟩ e (fun z => nomatch z) h
  | @frz a ob xs ea =>
    cases (show u = Value.ref a from rx)
    obtain ⟨_, _, _, n, _, h1⟩ := (show ObjOk X.prog X.w H s.heap a (.frz ob (.lst xs)) from I.hok a _ ea)
    exact PySem.W.kia_one PySem.W.kitx_list I.kIn ⟨_, h1, rfl⟩ e (fun z => nomatch z) h
  | @tup a xs ea =>
    cases (show u = Value.ref a from rx)
    obtain ⟨_, _, _, p⟩ := (show ObjOk X.prog X.w H s.heap a (.tup xs) from I.hok a _ ea)
    obtain ⟨o, h1, h2, _⟩ := p
    exact PySem.W.kia_one PySem.W.kitx_tuple I.kIn ⟨o, h1, h2⟩ e (fun z => nomatch z) h
  | @dK a kvs ea =>
    cases (show u = Value.ref a from rx)
    obtain ⟨_, _, vs, _, p⟩ := (show ObjOk X.prog X.w H s.heap a (.dK kvs) from I.hok a _ ea)
    obtain ⟨o, es, ep, h1, h2, _⟩ := p
    exact PySem.W.kia_one PySem.W.kitx_dict I.kIn ⟨o, h1, h2.1⟩ e (fun z => nomatch z) h
  | @dT a kvs ea =>
    cases (show u = Value.ref a from rx)
    obtain ⟨_, _, xs, _, o, es, ep, h1, h2, _⟩ := (show ObjOk X.prog X.w H s.heap a (.dT kvs) from I.hok a _ ea)
    exact PySem.W.kia_one PySem.W.kitx_dict I.kIn ⟨o, h1, h2.1⟩ e (fun z => nomatch z) h
  | @ins a C dx fs ea cl ha hn htk hm =>
    cases (show u = Value.ref a from rx)
    obtain ⟨mA, O, _⟩ := ins_get I.hok ea
    obtain ⟨od, J, _⟩ := O.look
    exact PySem.W.kia_one (PySem.W.kitx_own (cl.get _) cl.hd ha hn htk hm) I.kIn J e (fun z => nomatch z) h
end
end L2
namespace L2
open PySem PySem.Spec PyProof.Rows
structure Room (k : Nat) (A : Around) : Prop where
  hd : A.handled = none
  dp : A.depth + 3 * k + 5 < recursionLimit
  un : A.units + 16 * k + 200 < cLine
theorem Room.mono {j k : Nat} {A : Around} (r : Room k A) (h : j ≤ k) : Room j A := ⟨r.hd, by have := r.dp; omega, by have := r.un; omega⟩
theorem Room.deeper {k : Nat} {A : Around} (r : Room (k + 1) A) (env : Env) : Room k (A.deeper env) :=
  ⟨r.hd, by have := r.dp; show A.depth + 1 + 3 * k + 5 < _; omega, by have := r.un; show A.units + 3 + 16 * k + 200 < _; omega⟩
theorem Room.in1 {k : Nat} {A : Around} (r : Room (k + 1) A) : Room k A.in1 :=
  ⟨r.hd, by have := r.dp; show A.depth + 3 * k + 5 < _; omega, by have := r.un; show A.units + 1 + 16 * k + 200 < _; omega⟩
theorem Room.depth {k : Nat} {A : Around} (r : Room k A) : A.depth < recursionLimit := by have := r.dp; omega
theorem Room.units {k : Nat} {A : Around} (r : Room k A) : A.units + 64 < cLine := by have := r.un; omega
def tNil : TA := fun _ H Q => Q [] H
def tCons (ta : TE) (tr : TA) : TA := fun σ H Q => ta σ H fun x H1 => tr σ H1 fun xs H2 => Q (x :: xs) H2
section
variable {X : Cx} {e : Expr} {es : List Expr} {te : TE} {t : TA} {pos : Pos}
theorem pa_nil : PA X [] tNil := fun _ _ _ _ H Q I h => Calls.spliced_nil ⟨[], H, I, .nil, h⟩
theorem pa_cons (ha : PE X e te) (hr : PA X es t) (hs : starEach (e :: es) X.env = (false, eval e X.env) :: starEach es X.env := by rfl) : PA X (e :: es) (tCons te t) := by
  intro pos pins s σ H Q I h
  rw [hs]
  show wpAny _ _ (spliced ((false, eval e X.env) :: backTo pos (starEach es X.env))) _ _ s
  refine Calls.spliced_cons (thn (ha pins s σ H _ I h) fun u s1 ⟨x, H1, I1, r1, q1⟩ => ?_)
  exact thn (hr pos pins s1 σ H1 _ I1 q1) fun us s2 ⟨xs, H2, I2, r2, q2⟩ => ⟨x :: xs, H2, I2, .cons r1 r2, q2⟩
def tTup (t : TA) : TE := fun σ H Q => t σ H fun xs H1 => xs.length ≤ sizeLine ∧ ∀ p, H1 p = none → Q (.ref p) (upd H1 p (.tup xs))
def tLst (t : TA) : TE := fun σ H Q => t σ H fun xs H1 => xs.length ≤ sizeLine ∧ ∀ p, H1 p = none → Q (.ref p) (upd H1 p (.lst xs))
theorem pe_tup {x1} (h : PA X es t) : PE X (.Tuple es x1 pos) (tTup t) := by
  intro pins s σ H Q I hq
  refine wpAny_Tuple_spliced (thn (h pos pins s σ H _ I hq) fun us s1 ⟨xs, H1, I1, r, z, q⟩ => ⟨by rw [← r.length]; exact z, ?_⟩)
  have hf : H1 s1.heap.objs.size = none := I1.hok.fresh (Nat.le_refl _)
  refine ⟨.ref s1.heap.objs.size, upd H1 s1.heap.objs.size (.tup xs), I1.laid (t' := s1.toks) (fun b u e => Heap.get?_push_of_some _ e) (Nat.le_refl _) ?_, rfl, q _ hf⟩
  exact ⟨z, us, r, ⟨_, Heap.get?_push_size _ rfl, rfl, _, rfl⟩⟩
theorem pe_lst (h : PA X es t) : PE X (.List es pos) (tLst t) := by
  intro pins s σ H Q I hq
  refine wpAny_List_spliced (thn (h pos pins s σ H _ I hq) fun us s1 ⟨xs, H1, I1, r, z, q⟩ => ⟨by rw [← r.length]; exact z, ?_⟩)
  have hf : H1 s1.heap.objs.size = none := I1.hok.fresh (Nat.le_refl _)
  refine ⟨.ref s1.heap.objs.size, upd H1 s1.heap.objs.size (.lst xs), I1.laid (t' := s1.toks) (fun b u e => Heap.get?_push_of_some _ e) (Nat.le_refl _) ?_, rfl, q _ hf⟩
  exact ⟨z, us, 0, r, Heap.get?_push_size _ rfl⟩
end
abbrev Sp := List V → Hp → VK → XK → Prop
abbrev CXT := List Env → Hp → Shared → XK → Value → Shared → Prop
structure Env0 (P : Program) (w : World) (K : PySem.W.Frag) (mg : Str → Option Value) (base : Heap) (A : Around) (outer : List Env) (s : Shared) (H : Hp) : Prop where
  frames : A.frames = some outer
  mod : Mod K mg base
  bs : ∀ b o, base.get? b = some o → s.heap.get? b = some o ∧ H b = none
  bsz : base.objs.size ≤ s.heap.objs.size
  funs : s.heap.FunFrames base outer
  frf : ∀ b ∈ frs outer, H b = none
  hok : HOk P w H s.heap
  bare : AllBare s.gens
def CE (outer : List Env) (P : Program) (w : World) (H : Hp) (s : Shared) (Q : VK) (u : Value) (s' : Shared) : Prop :=
  ∃ v H', s'.os = s.os ∧ AllBare s'.gens ∧ Un (frs outer) [] H H' s.heap s'.heap ∧ HOk P w H' s'.heap ∧ RelV v u ∧ Q v H'
def CR (CX : CXT) (outer : List Env) (P : Program) (w : World) (H : Hp) (s : Shared) (Q : VK) (E : XK) (r : Result) (s' : Shared) : Prop :=
  match r with
  | .ok (.ret u) => CE outer P w H s Q u s'
  | .ok _ => False
  | .error e => CX outer H s E e s'
structure FnOk (P : Program) (w : World) (K : PySem.W.Frag) (mg : Str → Option Value) (base : Heap) (CX : CXT) (k : Nat) (f : Addr) (fd : FuncData) (ps : List Str) (sp : Sp) : Prop where
  len : ∀ vs H Q E, sp vs H Q E → vs.length = ps.length
  run : ∀ (A : Around) (outer : List Env) (s : Shared) (H : Hp) (args : Args) (us : List Value) (vs : List V) (Q : VK) (E : XK), Room k A → Env0 P w K mg base A outer s H → BindsTo s fd args (ps.zip us) → Vals vs us → sp vs H Q E →
    codeAny (model P w) A (.call (.ref f) args) (CR CX outer P w H s Q E) s
theorem FnOk.mono {P : Program} {w : World} {K : PySem.W.Frag} {mg : Str → Option Value} {base : Heap} {CX : CXT} {j k : Nat} {f : Addr} {fd : FuncData} {ps : List Str} {sp : Sp} (F : FnOk P w K mg base CX j f fd ps sp) (h : j ≤ k) :
    FnOk P w K mg base CX k f fd ps sp := ⟨F.len, fun A outer s H args us vs Q E hr => F.run A outer s H args us vs Q E (hr.mono h)⟩
theorem FnOk.imp {P : Program} {w : World} {K : PySem.W.Frag} {mg : Str → Option Value} {base : Heap} {CX : CXT} {k : Nat} {f : Addr} {fd : FuncData} {ps : List Str} {sp sp' : Sp} (F : FnOk P w K mg base CX k f fd ps sp)
    (h : ∀ vs H Q E, sp' vs H Q E → sp vs H Q E) : FnOk P w K mg base CX k f fd ps sp' :=
  ⟨fun vs H Q E q => F.len vs H Q E (h _ _ _ _ q), fun A outer s H args us vs Q E hr he hb hv hs => F.run A outer s H args us vs Q E hr he hb hv (h _ _ _ _ hs)⟩
theorem Env0.in1 {P : Program} {w : World} {K : PySem.W.Frag} {mg : Str → Option Value} {base : Heap} {A : Around} {outer : List Env} {s : Shared} {H : Hp} (e : Env0 P w K mg base A outer s H) :
    Env0 P w K mg base A.in1 outer s H := ⟨e.frames, e.mod, e.bs, e.bsz, e.funs, e.frf, e.hok, e.bare⟩
section
variable {X : Cx} {pins : List (Addr × Obj)} {σ : St} {H : Hp} {s s' : Shared}
theorem Inv.env0 (I : Inv X pins σ H s) : Env0 X.prog X.w X.K X.mg X.base X.A X.stack s H :=
  ⟨I.ok.frames, I.ok.mod, I.bs, Nat.le_trans I.ok.bsz I.sz, I.stack, I.stkFree, I.hok, I.bare⟩
theorem Inv.after {Q : VK} {u : Value} (I : Inv X pins σ H s) (h : CE X.stack X.prog X.w H s Q u s') : EP X pins σ Q u s' := by
  obtain ⟨v, H', os, bare, un, hok, r, q⟩ := h
  obtain ⟨hh, g, d, t, os'⟩ := s'
  obtain rfl : os' = s.os := os
  exact ⟨v, H', I.call (h' := hh) (g' := g) (d' := d) (t' := t) (ch := []) un hok bare (fun b z => absurd z (by simp)), r, q⟩
end
def tCall (sp : Sp) (dvs : List V) (E : XK) (t : TA) : TE := fun σ H Q => t σ H fun vs H1 => sp (vs ++ dvs) H1 Q E
def tMeth (C : Addr) (m : Str) (sp : Sp) (dvs : List V) (E : XK) (ta : TE) (t : TA) : TE := fun σ H Q => ta σ H fun x H1 => ∃ a dx fs, x = .ref a ∧ H1 a = some (.ins C dx fs) ∧ fs.lookup m = none ∧
  t σ H1 fun vs H2 => sp (x :: (vs ++ dvs)) H2 Q E
def tMake (C : Addr) (sp : Sp) (dvs : List V) (E : XK) (t : TA) : TE := fun σ H Q => t σ H fun vs H1 => ∀ x dx, H1 x = none → H1 dx = none → dx ≠ x →
  sp (.ref x :: (vs ++ dvs)) (upd (upd H1 dx (.own x)) x (.ins C dx [])) (fun v H2 => v = .non ∧ Q (.ref x) H2) E
def Binds (K : PySem.W.Frag) (fd : FuncData) (ps : List Str) (ds : List Value) : Prop :=
  ∀ (s : Shared) (us : List Value), K.In s.heap → (us ++ ds).length = ps.length → BindsTo s fd ⟨us, []⟩ (ps.zip (us ++ ds))
theorem Binds.all {K : PySem.W.Frag} {fd : FuncData} {ps : List Str} (h : ∀ us : List Value, us.length = ps.length → bindArgs fd ⟨us, []⟩ = pure (ps.zip us)) : Binds K fd ps [] := fun s us _ hl => by
  rw [List.append_nil] at hl ⊢
  exact .of_eq (h us hl)
def Passes (CX : CXT) (X : Cx) (E : XK) : Prop := ∀ (pins : List (Addr × Obj)) (σ : St) (H : Hp) (s : Shared) (e : Value) (s' : Shared), Inv X pins σ H s → CX X.stack H s E e s' → X.xe e s'
section
variable {X : Cx} {CX : CXT} {k : Nat} {f C : Addr} {fd : FuncData} {ps : List Str} {sp : Sp} {dvs : List V} {ds : List Value} {E : XK} {x m : Str} {p pos apos : Pos} {e o : Expr} {es : List Expr} {ta : TE} {t : TA}
theorem run_fn {pins : List (Addr × Obj)} {σ : St} {H : Hp} {s : Shared} {Q : VK} {us : List Value} {vs : List V} (F : FnOk X.prog X.w X.K X.mg X.base CX k f fd ps sp) (hr : Room k X.A) (hb : Binds X.K fd ps ds) (hd : Vals dvs ds) (hx : Passes CX X E)
    (I : Inv X pins σ H s) (r : Vals vs us) (h : sp (vs ++ dvs) H Q E) : wpAny (model X.prog X.w) X.A (call (.ref f) us) (EP X pins σ Q) X.xe s := by
  have r2 : Vals (vs ++ dvs) (us ++ ds) := r.append hd
  have hl : (us ++ ds).length = ps.length := by rw [← r2.length]; exact F.len _ _ _ _ h
  refine wpAny_call (codeAny_mono (F.run X.A X.stack s H ⟨us, []⟩ (us ++ ds) (vs ++ dvs) Q E hr I.env0 (hb s us I.kIn hl) r2 h) fun r s' hq => ?_)
  cases r with
  | error e => exact hx pins σ H s e s' I hq
  | ok fl =>
    cases fl with
    | ret u => exact I.after hq
    | next => exact False.elim hq
    | brk => exact False.elim hq
    | cont => exact False.elim hq
theorem pe_call (F : FnOk X.prog X.w X.K X.mg X.base CX k f fd ps sp) (hr : Room k X.A) (hg : Gl X x) (hm : X.mg x = some (.ref f)) (hk : PySem.W.keepIn X.K (.ref f) = true) (hb : Binds X.K fd ps ds) (hd : Vals dvs ds) (hx : Passes CX X E)
    (ha : PA X (e :: es) t) (hdb : (x == ("__debug__" : Str)) = false := by decide) (he : starEach (e :: es) X.env = (false, eval e X.env) :: starEach es X.env := by rfl) (hpl : (backTo pos (starEach es X.env)).any (·.1) = false := by rfl) :
    PE X (.Call (.Name x p) (e :: es) [] pos) (tCall sp dvs E t) := by
  intro pins s σ H Q I h
  refine wpAny_Call_Name_kw (ld_glob I hg hm ?_ hdb)
  refine PySem.W.callWith_K (h₀ := X.base) I.ok.mod.kin hk (thn (ha pos pins s σ H _ I h) fun us s1 ⟨vs, H1, I1, r, q⟩ => ⟨I1.kIn, ?_⟩) he hpl
  exact run_fn F hr hb hd hx I1 r q
structure Mk (K : PySem.W.Frag) (C f : Addr) : Prop where
  makes : PySem.W.makesIn K C = true
  init : PySem.W.findIn K (.ref C) "__init__" = some (some (.ref f))
  fn : PySem.W.isFn K (.ref f) = true
  kp : PySem.W.keepIn K (.ref C) = true
end
def PK (X : Cx) (kws : List Keyword) (t : TA) : Prop :=
  ∀ (pos : Pos) (pins : List (Addr × Obj)) (s : Shared) (σ : St) (H : Hp) (Q : List V → Hp → Prop), Inv X pins σ H s → t σ H Q → wpAny (model X.prog X.w) X.A (evalAll ((backToKw pos (keywordEach kws X.env)).map (·.2))) (AP X pins σ Q) X.xe s
section
variable {X : Cx} {CX : CXT} {k : Nat} {f C : Addr} {fd : FuncData} {ps ks : List Str} {sp : Sp} {E : XK} {x m : Str} {p pos apos kpos : Pos} {e o : Expr} {es : List Expr} {kws : List Keyword} {te ta : TE} {t tk : TA} {nm : Option Str}
structure KBinds (K : PySem.W.Frag) (fd : FuncData) (ps ks : List Str) (g : List Value → List Value → List Value) (gV : List V → List V → List V) : Prop where
  to : ∀ (s : Shared) (us ws : List Value), K.In s.heap → (g us ws).length = ps.length → BindsTo s fd ⟨us, ks.zip ws⟩ (ps.zip (g us ws))
  rel : ∀ {vs : List V} {us : List Value} {zs : List V} {ws : List Value}, Vals vs us → Vals zs ws → Vals (gV vs zs) (g us ws)
def tCallK (sp : Sp) (gV : List V → List V → List V) (E : XK) (t tk : TA) : TE := fun σ H Q => t σ H fun vs H1 => tk σ H1 fun zs H2 => sp (gV vs zs) H2 Q E
variable {g : List Value → List Value → List Value} {gV : List V → List V → List V}
end
structure FnScope (N P : List Str) (sc : Scope) : Prop where
  kind : sc.kind = .function
  co : sc.isCoroutine = false
  gen : sc.isGenerator = false
  nd : N.Nodup
  pre : N.take P.length = P
  par : ∀ x ∈ P, sc.names.lookup x = some .local ∨ sc.names.lookup x = some .cell
  nofree : ∀ y ∈ sc.names, y.2 ≠ .free
theorem bindL_out {kindOf : Str → Option NameKind} {x : Str} : ∀ {binds : List (Str × Value)} {m : Str → Option Value}, (∀ v, (x, v) ∉ binds) → bindL kindOf binds m x = m x
  | [], _, _ => rfl
  | (n, v) :: r, m, h => by
    unfold bindL
    rw [bindL_out fun w hw => h w (List.mem_cons_of_mem _ hw)]
    split
    · have : x ≠ n := by rintro rfl; exact h v List.mem_cons_self
      simp [this]
    · rfl
theorem bindC_out {kindOf : Str → Option NameKind} {x : Str} : ∀ {binds : List (Str × Value)} {m : Str → Option Value}, (∀ v, (x, v) ∉ binds) → bindC kindOf binds m x = m x
  | [], _, _ => rfl
  | (n, v) :: r, m, h => by
    unfold bindC
    rw [bindC_out fun w hw => h w (List.mem_cons_of_mem _ hw)]
    split
    · rfl
    · have : x ≠ n := by rintro rfl; exact h v List.mem_cons_self
      simp [this]
theorem bindL_get {kindOf : Str → Option NameKind} {x : Str} {v : Value} : ∀ {P : List Str} {vs : List Value} {i : Nat} {m : Str → Option Value}, P.Nodup → P[i]? = some x → vs[i]? = some v → kindOf x = some .local →
    bindL kindOf (P.zip vs) m x = some v
  | [], _, _, _, _, h, _, _ => by simp at h
  | _ :: _, [], _, _, _, _, h, _ => by simp at h
  | p :: P, w :: vs, 0, m, nd, h1, h2, hk => by
    simp at h1 h2; subst h1; subst h2
    show bindL kindOf ((p, w) :: P.zip vs) m p = _
    unfold bindL
    rw [bindL_out fun v hv => (List.nodup_cons.mp nd).1 (List.of_mem_zip hv).1, if_pos hk]
    simp
  | p :: P, w :: vs, i + 1, m, nd, h1, h2, hk => by
    show bindL kindOf ((p, w) :: P.zip vs) m x = _
    unfold bindL
    exact bindL_get (i := i) (List.nodup_cons.mp nd).2 (by simpa using h1) (by simpa using h2) hk
theorem bindC_get {kindOf : Str → Option NameKind} {x : Str} {v : Value} : ∀ {P : List Str} {vs : List Value} {i : Nat} {m : Str → Option Value}, P.Nodup → P[i]? = some x → vs[i]? = some v → kindOf x ≠ some .local →
    bindC kindOf (P.zip vs) m x = some v
  | [], _, _, _, _, h, _, _ => by simp at h
  | _ :: _, [], _, _, _, _, h, _ => by simp at h
  | p :: P, w :: vs, 0, m, nd, h1, h2, hk => by
    simp at h1 h2; subst h1; subst h2
    show bindC kindOf ((p, w) :: P.zip vs) m p = _
    unfold bindC
    rw [bindC_out fun v hv => (List.nodup_cons.mp nd).1 (List.of_mem_zip hv).1, if_neg hk]
    simp
  | p :: P, w :: vs, i + 1, m, nd, h1, h2, hk => by
    show bindC kindOf ((p, w) :: P.zip vs) m x = _
    unfold bindC
    exact bindC_get (i := i) (List.nodup_cons.mp nd).2 (by simpa using h1) (by simpa using h2) hk
def start (N : List Str) (vs : List V) : St := vs.map some ++ List.replicate (N.length - vs.length) none
def cxOf (CX : CXT) (P : Program) (w : World) (K : PySem.W.Frag) (mg : Str → Option Value) (base : Heap) (N : List Str) (qual : Str) (scope : Scope) (f : Addr) (cd : Value) (A : Around) (outer : List Env) (s : Shared) (H : Hp) (E : XK) : Cx where
  prog := P
  w := w
  K := K
  mg := mg
  base := base
  A := A.deeper (envOfC qual scope s.heap.objs.size f cd)
  N := N
  s₀ := s
  H₀ := H
  env := envOfC qual scope s.heap.objs.size f cd
  outer := outer
  stack := envOfC qual scope s.heap.objs.size f cd :: outer
  ex := []
  calm := true
  fn := fun _ => true
  pn := []
  xe := fun e s' => wpAny (model P w) (A.deeper (envOfC qual scope s.heap.objs.size f cd)) (leaving (envOfC qual scope s.heap.objs.size f cd) e) (fun _ s'' => CX outer H s E e s'') (fun e' s'' => CX outer H s E e' s'') s'
theorem cell_has {sc : Scope} {n : Nat} {x : Str} (h : sc.names.lookup x = some .cell) : ∃ c, (cellsFrom n sc.names []).lookup x = some c := by
  have q := PySem.W.cellsFrom_some sc.names n [] (.inl h)
  exact Option.isSome_iff_exists.mp q
theorem inv_start {CX : CXT} {P : Program} {w : World} {K : PySem.W.Frag} {mg : Str → Option Value} {base : Heap} {N ps : List Str} {qual : Str} {scope : Scope} {f : Addr} {cd : Value} {A : Around} {outer : List Env} {s s1 : Shared} {H : Hp} {E : XK} {us : List Value} {vs : List V}
    (S : FnScope N ps scope) (hd : A.handled = none) (e0 : Env0 P w K mg base A outer s H) (hl : vs.length = ps.length) (r : Vals vs us)
    (x : InCallC s s.heap.objs.size (bindL (envOfC qual scope s.heap.objs.size f cd).kindOf (ps.zip us) fun _ => none) (cellsFrom (s.heap.objs.size + 1) scope.names []) (bindC (envOfC qual scope s.heap.objs.size f cd).kindOf (ps.zip us) fun _ => none) s1) :
    Inv (cxOf CX P w K mg base N qual scope f cd A outer s H E) [] (start N vs) H s1 := by
  have hpl : ps.length ≤ N.length := by have := congrArg List.length S.pre; rw [List.length_take] at this; omega
  obtain ⟨h1, tk, rfl, hk⟩ := x.done
  have noA : ∀ b : Addr, b ∉ (cxOf CX P w K mg base N qual scope f cd A outer s H E).ex := fun b z => absurd (show b ∈ ([] : List Addr) from z) (by simp)
  refine ⟨⟨e0.mod, S.kind, rfl, rfl, Nat.le_refl _, fun y z c h1 h2 => ?_, fun y hy => ?_, fun y c _ h => ?_, fun _ => hd, Around.frames_deeper e0.frames, .inr ⟨rfl, rfl⟩, fun b z => absurd z (noA b), e0.bs, e0.bsz, fun b _ _ => noA b, fun b z => absurd z (noA b), e0.funs, e0.frf⟩,
    rfl, e0.bare, Un.kept hk, ⟨_, x.toInCall.ns, fun i y v h1 h2 h3 => ?_⟩, fun y c h => ⟨_, x.cell y c h⟩, e0.hok.fresh (Nat.le_refl _), fun y c h => ?_, fun p hp => absurd (show p ∈ ([] : List (Addr × Obj)) from hp) (by simp), e0.hok.kept hk, ?_⟩
  · exact name_of_addr x.apart (PySem.mem_of_lookup h1) (PySem.mem_of_lookup h2)
  · have hy : scope.names.lookup y = some .cell ∨ scope.names.lookup y = some .free := hy
    rcases hy with hy | hy
    · exact cell_has hy
    · exact absurd rfl (S.nofree _ (PySem.mem_of_lookup hy))
  · exact Nat.le_of_lt (x.above y c (PySem.mem_of_lookup h))
  · have hi : i < vs.length := by
      unfold start at h2
      by_cases hi : i < vs.length
      · exact hi
      · rw [List.getElem?_append_right (by simpa using hi)] at h2
        rw [List.getElem?_replicate] at h2
        split at h2 <;> cases h2
    have ha : vs[i]? = some v := by
      unfold start at h2
      rw [List.getElem?_append_left (by simpa using hi), List.getElem?_map] at h2
      cases e : vs[i]? with
      | none => rw [e] at h2; cases h2
      | some a => rw [e] at h2; cases h2; rfl
    obtain ⟨u, hu, rv⟩ := r.get ha
    have hp : ps[i]? = some y := by
      rw [← S.pre, List.getElem?_take_of_lt (by omega)]; exact h1
    have ndP : ps.Nodup := by rw [← S.pre]; exact S.nd.sublist (List.take_sublist _ _)
    refine ⟨u, rv, ?_⟩
    rcases S.par y (List.mem_of_getElem? hp) with k | k
    · exact .inl ⟨k, bindL_get ndP hp hu k⟩
    · obtain ⟨c, e⟩ := cell_has (n := s.heap.objs.size + 1) k
      refine .inr ⟨.inl k, c, e, ?_⟩
      have q := x.cell y c e
      rw [bindC_get ndP hp hu (by show scope.names.lookup y ≠ _; rw [k]; decide)] at q
      exact q
  · exact e0.hok.fresh (Nat.le_of_lt (x.above y c (PySem.mem_of_lookup h)))
  · unfold start
    show _ = N.length
    rw [List.length_append, List.length_map, List.length_replicate]
    omega
theorem fn_of {CX : CXT} {P : Program} {w : World} {K : PySem.W.Frag} {mg : Str → Option Value} {base : Heap} {k : Nat} {f : Addr} {name qual : Str} {params : Arguments} {body : List Stmt} {scope : Scope} {dV kV doc pm cdv ct oc : Value} {an od : Option Addr}
    {osl : Array (Option Value)} {N ps : List Str} {sp : Sp} (lk : K.lookup f = some ⟨oc, od, .func (PySem.W.fnOf name qual params body scope dV kV doc pm an cdv ct), osl⟩) (hcd : PySem.W.codeIn K cdv qual = true) (S : FnScope N ps scope)
    (len : ∀ vs H Q E, sp vs H Q E → vs.length = ps.length)
    (hbody : ∀ (A : Around) (outer : List Env) (s : Shared) (H : Hp) (vs : List V) (Q : VK) (E : XK), Room k (A.deeper (envOfC qual scope s.heap.objs.size f cdv)) → sp vs H Q E →
      ∃ t, PSs (cxOf CX P w K mg base N qual scope f cdv A outer s H E) body t ∧ t { nx := fun _ H' => Q .non H', rt := Q } (start N vs) H) :
    FnOk P w K mg base CX (k + 1) f (PySem.W.fnOf name qual params body scope dV kV doc pm an cdv ct) ps sp := by
  refine ⟨len, fun A outer s H args us vs Q E hr e0 hb r hsp => ?_⟩
  have hl := len _ _ _ _ hsp
  have KX : K.In s.heap := e0.mod.kin.keeps fun b o e => (e0.bs b o e).1
  have lim : s.heap.NoLimit := e0.mod.nolimit.keeps fun b o e => (e0.bs b o e).1
  have hkind : ∀ y ∈ ps.zip us, scope.names.lookup y.1 = some .local ∨ (scope.names.lookup y.1 = some .cell ∧ ((cellsFrom (s.heap.objs.size + 1) scope.names []).lookup y.1).isSome = true) := fun ⟨n, v⟩ hy => by
    rcases S.par n (List.of_mem_zip hy).1 with q | q
    · exact .inl q
    · exact .inr ⟨q, PySem.W.cellsFrom_some _ _ _ (.inl q)⟩
  refine codeAny_call_function hr.depth (KX _ _ lk) rfl S.co S.gen rfl (PySem.W.codeRec_of KX hcd) (hb _ _ _ _ ?_)
  refine wpAny_newFunctionEnv_cells S.kind hkind fun env he s1 x => ?_
  subst he
  refine ⟨lim.keeps x.toInCall.keep, codeAny_func ?_⟩
  obtain ⟨t, ht, hq⟩ := hbody A outer s H vs Q E (hr.deeper _) hsp
  have I : Inv (cxOf CX P w K mg base N qual scope f cdv A outer s H E) [] (start N vs) H s1 := inv_start S hr.hd e0 hl r x
  refine wpAny_mono (ht [] s1 (start N vs) H _ I hq) (fun fl s' hs => ?_) fun e s' hs => hs
  have fin : ∀ {σ' : St} {H' : Hp} {v : V} {u : Value}, Inv (cxOf CX P w K mg base N qual scope f cdv A outer s H E) [] σ' H' s' → RelV v u → Q v H' → CE outer P w H s Q u s' :=
    fun {σ' H' v u} J rv q => ⟨v, H', J.os, J.bare, J.base, J.hok, rv, q⟩
  cases fl with
  | ret u =>
    obtain ⟨v, σ', H', J, rv, q⟩ := hs
    exact fin J rv q
  | next =>
    obtain ⟨σ', H', J, q⟩ := hs
    exact fin (v := V.non) (u := Value.none) J rfl q
  | brk =>
    obtain ⟨_, _, _, q⟩ := hs
    exact False.elim q
  | cont =>
    obtain ⟨_, _, _, q⟩ := hs
    exact False.elim q
end L2
namespace L2
open PySem PySem.Spec PyProof.Rows
section
variable {X : Cx} {x : Str} {p pos : Pos} {e : Expr} {es : List Expr} {t : TA} {id T : String} {r : List V → Hp → VK → Prop}
def tCB (r : List V → Hp → VK → Prop) (t : TA) : TE := fun σ H Q => t σ H fun vs H1 => r vs H1 Q
theorem pe_callB (hc : CallR X (.builtin id) r) (hg : Gl X x) (hm : X.mg x = none) (hv : bootBuiltins x = some (.builtin id)) (ha : PA X (e :: es) t) (hn : x ≠ "__name__" := by decide) (hdb : (x == ("__debug__" : Str)) = false := by decide)
    (he : starEach (e :: es) X.env = (false, eval e X.env) :: starEach es X.env := by rfl) (hpl : (backTo pos (starEach es X.env)).any (·.1) = false := by rfl) : PE X (.Call (.Name x p) (e :: es) [] pos) (tCB r t) := by
  intro pins s σ H Q I h
  refine wpAny_Call_Name_kw (ld_blt I hg hm hv ?_ hn hdb)
  exact PyProof.Rows.callWith_builtin1 (thn (ha pos pins s σ H _ I h) fun us s1 ⟨vs, H1, I1, r1, q1⟩ => hc pins s1 σ H1 vs us Q I1 r1 q1) he hpl
theorem pe_callTy (hc : CallR X (.type T) r) (hg : Gl X x) (hm : X.mg x = none) (hv : bootBuiltins x = some (.type T)) (ha : PA X (e :: es) t) (hn : x ≠ "__name__" := by decide) (hdb : (x == ("__debug__" : Str)) = false := by decide)
    (he : starEach (e :: es) X.env = (false, eval e X.env) :: starEach es X.env := by rfl) (hpl : (backTo pos (starEach es X.env)).any (·.1) = false := by rfl) : PE X (.Call (.Name x p) (e :: es) [] pos) (tCB r t) := by
  intro pins s σ H Q I h
  refine wpAny_Call_Name_kw (ld_blt I hg hm hv ?_ hn hdb)
  exact PyProof.Rows.callWith_type1 (thn (ha pos pins s σ H _ I h) fun us s1 ⟨vs, H1, I1, r1, q1⟩ => hc pins s1 σ H1 vs us Q I1 r1 q1) he hpl
end
end L2
namespace HT
open PySem PyProof.Rows
def lexLt : List Int → List Int → Bool
  | [], [] => false
  | [], _ :: _ => true
  | _ :: _, [] => false
  | x :: xs, y :: ys => if x = y then lexLt xs ys else decide (x < y)
section
open PySem.SeqAt
open PySem.AutoSeq1 (wpAny_loadPart')
open PySem.MeetsSeq PySem.MeetsSeq2 PySem.MeetsSeq3
end
section
variable {prog : Program} {w : World} {A : Around} {E : Value → Shared → Prop} {s : Shared}
def sIx (n d : Nat) : Option Int → Nat
  | none => d
  | some v => if v < 0 then (v + (n : Int)).toNat else min v.toNat n
end
end HT
namespace L2
open PySem PySem.Spec PyProof.Rows
abbrev TO := St → Hp → (Option Int → Hp → Prop) → Prop
def PO (X : Cx) (e : Option Expr) (t : TO) : Prop :=
  ∀ (pins : List (Addr × Obj)) (s : Shared) (σ : St) (H : Hp) (Q : Option Int → Hp → Prop), Inv X pins σ H s → t σ H Q →
    wpAny (model X.prog X.w) X.A (evalPart e X.env) (fun u s' => ∃ o H', Inv X pins σ H' s' ∧ IsPart u o ∧ Q o H') X.xe s
def tNoPart : TO := fun _ H Q => Q none H
def tPart (t : TE) : TO := fun σ H Q => t σ H fun x H1 => ∃ i, x = .int i ∧ Q (some i) H1
section
variable {X : Cx} {e : Expr} {te : TE} {lo hi : Option Expr} {tl th : TO} {pos p2 : Pos}
theorem po_none : PO X none tNoPart := by
  intro pins s σ H Q I h
  rw [evalPart_none]
  exact wpAny_pure ⟨none, H, I, .none, h⟩
theorem po_some (h : PE X e te) : PO X (some e) (tPart te) := by
  intro pins s σ H Q I hw
  rw [evalPart_some]
  refine thn (h pins s σ H _ I hw) fun u s1 ⟨x, H1, I1, r1, q1⟩ => ?_
  obtain ⟨i, rfl, q⟩ := q1
  obtain ⟨t, rfl⟩ := r1
  exact ⟨some i, H1, I1, .int i t, q⟩
def SlR (X : Cx) (r : V → Option Int → Option Int → Hp → VK → Prop) : Prop :=
  ∀ (pins : List (Addr × Obj)) (s : Shared) (σ : St) (H : Hp) (x : V) (v vl vu : Value) (lo hi : Option Int) (sl : Addr) (Q : VK), Inv X pins σ H s → RelV x v → s.heap.IsSliceOf sl vl vu .none → IsPart vl lo → IsPart vu hi → r x lo hi H Q →
    ∃ T id, typeLookup (.type T) "__getitem__" = pure (some (.builtin id)) ∧ s.TypeIs v T ∧ wpAny (model X.prog X.w) X.A (getItem v (.ref sl)) (EP X pins σ Q) X.xe s
theorem SlR.or {r r' : V → Option Int → Option Int → Hp → VK → Prop} (h : SlR X r) (h' : SlR X r') : SlR X (fun x lo hi H Q => r x lo hi H Q ∨ r' x lo hi H Q) := by
  intro pins s σ H x v vl vu lo hi sl Q I rx hs pl pu q
  rcases q with q | q
  · exact h pins s σ H x v vl vu lo hi sl Q I rx hs pl pu q
  · exact h' pins s σ H x v vl vu lo hi sl Q I rx hs pl pu q
def tSl (r : V → Option Int → Option Int → Hp → VK → Prop) (te : TE) (tl th : TO) : TE := fun σ H Q => te σ H fun x H1 => tl σ H1 fun l H2 => th σ H2 fun u H3 => r x l u H3 Q
theorem pe_slice {r : V → Option Int → Option Int → Hp → VK → Prop} (hr : SlR X r) (he : PE X e te) (hl : PO X lo tl) (hu : PO X hi th) : PE X (.Subscript e (.Slice lo hi none p2) pos) (tSl r te tl th) := by
  intro pins s σ H Q I h
  refine Subscript_ (thn (he pins s σ H _ I h) fun v s1 ⟨x, H1, I1, r1, q1⟩ => ?_)
  refine wpAny_Slice (thn (hl pins s1 σ H1 _ I1 q1) fun vl s2 ⟨l, H2, I2, pl, q2⟩ => thn (hu pins s2 σ H2 _ I2 q2) fun vu s3 ⟨u, H3, I3, pu, q3⟩ => ?_)
  rw [evalPart_none]
  refine wpAny_pure ?_
  have I4 : Inv X pins σ H3 { s3 with heap := s3.heap.push { cls := .type "slice", data := .fields #[vl, vu, .none] } } := I3.kept (t' := s3.toks) fun b ob q => Heap.get?_push_of_some _ q
  obtain ⟨T, id, hT, ht, hg⟩ := hr pins { s3 with heap := s3.heap.push { cls := .type "slice", data := .fields #[vl, vu, .none] } } σ H3 x v vl vu l u s3.heap.objs.size Q I4 r1 (Heap.IsSliceOf.new ..) pl pu q3
  show wpAny (model X.prog X.w) X.A (subscriptTail e (.Slice lo hi none p2) v (.ref s3.heap.objs.size)) (EP X pins σ Q) X.xe { s3 with heap := s3.heap.push { cls := .type "slice", data := .fields #[vl, vu, .none] } }
  exact tail_any (ops := [.ref s3.heap.objs.size, v]) ht hT hg (by with_unfolding_all rfl)
def cutV (xs : List V) (lo hi : Option Int) : List V := (xs.drop (HT.sIx xs.length 0 lo)).take (HT.sIx xs.length xs.length hi - HT.sIx xs.length 0 lo)
theorem cutV_length (xs : List V) (lo hi : Option Int) : (cutV xs lo hi).length ≤ xs.length := by
  unfold cutV
  rw [List.length_take, List.length_drop]
  omega
def rSlT (K : PySem.W.Frag) : V → Option Int → Option Int → Hp → VK → Prop := fun x lo hi H Q => ∃ a xs, x = .ref a ∧ SqT K H a xs ∧
  ¬ (HT.sIx xs.length 0 lo = 0 ∧ HT.sIx xs.length xs.length hi = xs.length) ∧ ∀ p, H p = none → Q (.ref p) (upd H p (.tup (cutV xs lo hi)))
def rLtT (K : PySem.W.Frag) : R2 := fun x y H Q => ∃ a b ns ms, x = .ref a ∧ y = .ref b ∧ SqT K H a (ns.map V.int) ∧ SqT K H b (ms.map V.int) ∧ Q (.bl (HT.lexLt ns ms)) H
def rCatT (K : PySem.W.Frag) : R2 := fun x y H Q => ∃ a b xs ys, x = .ref a ∧ y = .ref b ∧ SqT K H a xs ∧ SqT K H b ys ∧ xs ≠ [] ∧ xs.length + ys.length ≤ sizeLine ∧
  (ys = [] → Q (.ref a) H) ∧ (ys ≠ [] → ∀ p, H p = none → Q (.ref p) (upd H p (.tup (xs ++ ys))))
end
end L2
namespace L2
open PySem PySem.Spec PyProof.Rows
def ixN (n : Nat) (i : Int) : Option Nat := if 0 ≤ i then (if i < n then some i.toNat else none) else if -(n : Int) ≤ i then some (i + n).toNat else none
def atI {α : Type} (xs : List α) (i : Int) : Option α := (ixN xs.length i).bind fun j => xs[j]?
theorem ixN_seq {n : Nat} {i : Int} {j : Nat} (h : ixN n i = some j) : seqIndex? i n = some j ∧ j < n ∧ -(n : Int) ≤ i ∧ i < n := by
  unfold ixN at h
  by_cases h0 : 0 ≤ i
  · rw [if_pos h0] at h
    by_cases h1 : i < n
    · rw [if_pos h1] at h
      have e : i.toNat = j := Option.some.inj h
      exact ⟨by rw [seqIndex_of h0 h1, e], by omega, by omega, h1⟩
    · rw [if_neg h1] at h; cases h
  · rw [if_neg h0] at h
    by_cases h1 : -(n : Int) ≤ i
    · rw [if_pos h1] at h
      have e : (i + n).toNat = j := Option.some.inj h
      exact ⟨by rw [seqIndex_neg (by omega) h1, e], by omega, h1, by omega⟩
    · rw [if_neg h1] at h; cases h
theorem atI_get {α : Type} {xs : List α} {i : Int} {v : α} (h : atI xs i = some v) : ∃ j, seqIndex? i xs.length = some j ∧ xs[j]? = some v ∧ j < xs.length ∧ -(xs.length : Int) ≤ i ∧ i < xs.length := by
  unfold atI at h
  cases e : ixN xs.length i with
  | none => rw [e] at h; cases h
  | some j =>
    rw [e] at h
    obtain ⟨h1, h2, h3, h4⟩ := ixN_seq e
    exact ⟨j, h1, h, h2, h3, h4⟩
theorem atI_nat {α : Type} {xs : List α} {j : Nat} {v : α} (h : xs[j]? = some v) : atI xs (j : Int) = some v := by
  have hj : j < xs.length := (List.getElem?_eq_some_iff.mp h).1
  have e : ixN xs.length (j : Int) = some j := by
    unfold ixN
    rw [if_pos (by omega), if_pos (by omega)]; simp
  unfold atI; rw [e]; exact h
def PlainIx (b : Expr) : Prop := ∀ o i, subscripted b false o i = operate [o, i] (getItem o i)
def IxR (X : Cx) (r : R2) : Prop :=
  ∀ (value slice : Expr) (pins : List (Addr × Obj)) (s : Shared) (σ : St) (H : Hp) (x y : V) (v u : Value) (Q : VK), Inv X pins σ H s → RelV x v → RelV y u → r x y H Q →
    subscripted slice false v u = operate [v, u] (getItem v u) → wpAny (model X.prog X.w) X.A (subscriptTail value slice v u) (EP X pins σ Q) X.xe s
def MtR (X : Cx) (id : String) (r : V → List V → Hp → VK → Prop) : Prop :=
  ∀ (pins : List (Addr × Obj)) (s : Shared) (σ : St) (H : Hp) (x : V) (xs : List V) (v : Value) (us : List Value) (Q : VK), Inv X pins σ H s → RelV x v → Vals xs us → r x xs H Q →
    wpAny (model X.prog X.w) X.A (call (.builtin id) (v :: us)) (EP X pins σ Q) X.xe s
section
variable {X : Cx} {a b : Expr} {ta tb : TE} {pos : Pos}
theorem IxR.or {r r' : R2} (h : IxR X r) (h' : IxR X r') : IxR X (fun x y H Q => r x y H Q ∨ r' x y H Q) := by
  intro value slice pins s σ H x y v u Q I rx ry q hs
  rcases q with q | q
  · exact h value slice pins s σ H x y v u Q I rx ry q hs
  · exact h' value slice pins s σ H x y v u Q I rx ry q hs
theorem MtR.or {id : String} {r r' : V → List V → Hp → VK → Prop} (h : MtR X id r) (h' : MtR X id r') : MtR X id (fun x xs H Q => r x xs H Q ∨ r' x xs H Q) := by
  intro pins s σ H x xs v us Q I rx rs q
  rcases q with q | q
  · exact h pins s σ H x xs v us Q I rx rs q
  · exact h' pins s σ H x xs v us Q I rx rs q
theorem pe_ix {r : R2} (hr : IxR X r) (ha : PE X a ta) (hb : PE X b tb) (hs : PlainIx b) : PE X (.Subscript a b pos) (tOp r ta tb) := by
  intro pins s σ H Q I h
  exact Subscript_ (binT ha hb I h fun v u s2 x y H2 I2 rx ry q => hr a b pins s2 σ H2 x y v u Q I2 rx ry q (hs _ _))
def rIxL (K : PySem.W.Frag) : R2 := fun x y H Q => ∃ p xs i v, x = .ref p ∧ y = .int i ∧ SqL K H p xs ∧ atI xs i = some v ∧ Q v H
def rIxT (K : PySem.W.Frag) : R2 := fun x y H Q => ∃ p xs i v, x = .ref p ∧ y = .int i ∧ SqT K H p xs ∧ atI xs i = some v ∧ Q v H
def rIxS : R2 := fun x y H Q => ∃ z i c, x = .str z ∧ y = .int i ∧ z.length ≤ sizeLine ∧ atI z.cps.toList i = some c ∧ Q (.str ⟨#[c]⟩) H
theorem ix_list : IxR X (rIxL X.K) := by
  intro value slice pins s σ H x y v u Q I rx ry h hs
  obtain ⟨p, xs, i, z, rfl, rfl, hq, he, q⟩ := h
  cases rx
  obtain ⟨t, rfl⟩ := ry
  obtain ⟨its, r, pl, hz⟩ := I.list hq
  obtain ⟨j, h1, h2, h3, h4, h5⟩ := atI_get he
  obtain ⟨w, ew, rw'⟩ := r.get h2
  have hl := r.length
  have hn := line63
  have fin : EP X pins σ Q w s := ⟨z, H, I, rw', q⟩
  by_cases h0 : 0 ≤ i
  · have hj : i.toNat = j := by
      rw [seqIndex_of h0 h5] at h1
      exact Option.some.inj h1
    exact item_listR pl.isList h0 (by omega) (by rw [hj]; simpa using ew) fin hs
  · have hj : (i + (its.toArray.size : Int)).toNat = j := by
      rw [seqIndex_neg (by omega) h4] at h1
      rw [List.size_toArray, ← hl]
      exact Option.some.inj h1
    exact subscriptTail_builtinR (x := w) pl.isList.typeIs slot_list_getitem.lookup
      (wpAny_getItem_list_neg (Q := fun r s' => r = w ∧ EP X pins σ Q r s') pl.isList (by omega) (by rw [List.size_toArray] <;> omega) (by omega) (by rw [hj]; simpa using ew) ⟨rfl, fin⟩) hs
theorem ix_str : IxR X rIxS := by
  intro value slice pins s σ H x y v u Q I rx ry h hs
  obtain ⟨z, i, c, rfl, rfl, hz, he, q⟩ := h
  obtain ⟨t, rfl⟩ := rx
  obtain ⟨t', rfl⟩ := ry
  obtain ⟨j, h1, h2, h3, h4, h5⟩ := atI_get he
  have hl : z.cps.toList.length = z.length := by simp [Str.length]
  rw [hl] at h1 h4 h5
  have hn := line63
  exact tail_any (typeIs_str s z t) slot_str_getitem.lookup (getItem_str (c := c) (by
    have e1 : decide (i < -(2 ^ 63 : Int)) = false := decide_eq_false (by omega)
    have e2 : decide (i ≥ 2 ^ 63) = false := decide_eq_false (by omega)
    rw [e1, e2, Bool.or_false]) (by rw [h1]; simpa using h2) ⟨.str ⟨#[c]⟩, H, I.tok _, ⟨_, rfl⟩, q⟩) hs
def rIx (K : PySem.W.Frag) : R2 := fun x y H Q => rIxL K x y H Q ∨ rIxT K x y H Q ∨ rIxS x y H Q
theorem Inv.lst {pins : List (Addr × Obj)} {σ : St} {H : Hp} {s : Shared} {p : Addr} {xs : List V} (I : Inv X pins σ H s) (h : H p = some (.lst xs)) :
    ∃ (its : List Value) (n : Nat), Vals xs its ∧ s.heap.get? p = some { cls := .type "list", data := .seq its.toArray n } ∧ xs.length ≤ sizeLine := by
  obtain ⟨z, its, n, r, e⟩ := I.hok p _ h
  exact ⟨its, n, r, e, z⟩
def rSetL : V → V → V → Hp → (Hp → Prop) → Prop := fun o i v H Q => ∃ p xs k j, o = .ref p ∧ i = .int k ∧ H p = some (.lst xs) ∧ ixN xs.length k = some j ∧ Q (upd H p (.lst (xs.set j v)))
theorem slice_bounds (lo hi : Option Int) (n : Nat) : (sliceBounds lo hi none n).1 = ((HT.sIx n 0 lo : Nat) : Int) ∧ (sliceBounds lo hi none n).2.1 = ((HT.sIx n n hi : Nat) : Int) ∧ (sliceBounds lo hi none n).2.2 = 1 := by
  refine ⟨?_, ?_, rfl⟩
  · cases lo with
    | none => simp [sliceBounds, HT.sIx]
    | some i =>
      simp only [sliceBounds, HT.sIx, Option.getD_none, show (1 : Int) > 0 by decide, if_true]
      by_cases h : i < 0
      · simp only [h, if_true] <;> omega
      · simp only [h, if_false] <;> omega
  · cases hi with
    | none => simp [sliceBounds, HT.sIx]
    | some i =>
      simp only [sliceBounds, HT.sIx, Option.getD_none, show (1 : Int) > 0 by decide, if_true]
      by_cases h : i < 0
      · simp only [h, if_true] <;> omega
      · simp only [h, if_false] <;> omega
theorem slicePick_cut (its : List Value) (lo hi : Option Int) : slicePick its.toArray lo hi none = ((its.drop (HT.sIx its.length 0 lo)).take (HT.sIx its.length its.length hi - HT.sIx its.length 0 lo)).toArray := by
  obtain ⟨h1, h2, h3⟩ := slice_bounds lo hi its.toArray.size
  unfold slicePick
  rw [h1, h2, h3]
  simp only [sliceRange_one, pick_run, List.size_toArray] <;> rfl
def rSlL (K : PySem.W.Frag) : V → Option Int → Option Int → Hp → VK → Prop := fun x lo hi H Q => ∃ a xs, x = .ref a ∧ SqL K H a xs ∧ ∀ p, H p = none → Q (.ref p) (upd H p (.lst (cutV xs lo hi)))
theorem sl_list : SlR X (rSlL X.K) := by
  intro pins s σ H x v vl vu lo hi sl Q I rx hs pl pu h
  obtain ⟨a, xs, rfl, hx, q⟩ := h
  cases rx
  obtain ⟨its, r, ht, hz⟩ := I.list hx
  have hlen := r.length
  refine ⟨"list", _, slot_list_getitem.lookup, ht.isList.typeIs, ?_⟩
  refine wpAny_getItem_list_slice ht.isList hs pl pu .none (by simp) ?_ (by rw [List.size_toArray] <;> omega)
  rw [slicePick_cut, ← hlen]
  refine ⟨.ref s.heap.objs.size, _, I.laid (t' := s.toks) (o := .lst (cutV xs lo hi)) (fun b ob q => Heap.get?_push_of_some _ q) (Nat.le_refl _) ?_, rfl, q _ (I.hok.fresh (Nat.le_refl _))⟩
  exact ⟨Nat.le_trans (cutV_length xs lo hi) hz, _, 0, (r.drop (HT.sIx xs.length 0 lo)).take (HT.sIx xs.length xs.length hi - HT.sIx xs.length 0 lo), Heap.get?_push_size _ rfl⟩
def flatV : V → Bool
  | .non => true
  | .bl _ => true
  | .int _ => true
  | .str _ => true
  | _ => false
def eqV : V → V → Bool
  | .non, .non => true
  | .bl a, .bl b => a == b
  | .bl a, .int b => (if a then 1 else 0) == b
  | .int a, .bl b => a == (if b then 1 else 0)
  | .int a, .int b => a == b
  | .str a, .str b => a == b
  | _, _ => false
def eqU (x : V) (u : Value) : Bool := match u with
  | .none => eqV .non x
  | .bool b => eqV (.bl b) x
  | .int i _ => eqV (.int i) x
  | .str z _ => eqV (.str z) x
  | _ => false
def inV (x : V) (xs : List V) : Bool := xs.any fun y => eqV y x
def rIn (K : PySem.W.Frag) (neg : Bool) : R2 := fun x y H Q => ∃ p xs, y = .ref p ∧ (SqL K H p xs ∨ SqT K H p xs) ∧ flatV x = true ∧ xs.all flatV = true ∧ Q (.bl (if neg then !inV x xs else inV x xs)) H
theorem call_len_seq : CallR X (.builtin "len") (fun xs H Q => ∃ p ys, xs = [.ref p] ∧ (SqL X.K H p ys ∨ SqT X.K H p ys) ∧ Q (.int ys.length) H) := by
  intro pins s σ H xs us Q I r h
  obtain ⟨p, ys, rfl, hq, q⟩ := h
  obtain ⟨u, rfl, rx⟩ := vals1 r
  cases rx
  have hn := line63
  rcases hq with hq | hq
  · obtain ⟨its, r', pl, hz⟩ := I.list hq
    have hlen := r'.length
    exact Calls.call_len_list pl.isList (by simp only [List.size_toArray] <;> omega) ⟨.int ys.length, H, I.tok _, ⟨s.toks + 1, by rw [List.size_toArray, hlen]⟩, q⟩
  · obtain ⟨its, r', pl, hz⟩ := I.tuple hq
    have hlen := r'.length
    exact len_tuple pl (by simp only [List.size_toArray] <;> omega) ⟨.int ys.length, H, I.tok _, ⟨s.toks + 1, by rw [List.size_toArray, hlen]⟩, q⟩
theorem call_len_str : CallR X (.builtin "len") (fun xs H Q => ∃ z, xs = [.str z] ∧ z.length ≤ sizeLine ∧ Q (.int z.length) H) := by
  intro pins s σ H xs us Q I r h
  obtain ⟨z, rfl, hz, q⟩ := h
  obtain ⟨u, rfl, t, rfl⟩ := vals1 r
  have hn := line63
  exact len_str (by omega) ⟨.int z.length, H, I.tok _, ⟨_, rfl⟩, q⟩
theorem CallR.or {f : Value} {r r' : List V → Hp → VK → Prop} (h : CallR X f r) (h' : CallR X f r') : CallR X f (fun xs H Q => r xs H Q ∨ r' xs H Q) := by
  intro pins s σ H xs us Q I rs q
  rcases q with q | q
  · exact h pins s σ H xs us Q I rs q
  · exact h' pins s σ H xs us Q I rs q
def tyV (K : PySem.W.Frag) (T : String) (x : V) (H : Hp) : Prop := match x with
  | .str _ => T = "str"
  | .int _ => T = "int"
  | .ref p => (T = "list" ∧ ∃ xs, SqL K H p xs) ∨ (T = "tuple" ∧ ∃ o, K.lookup p = some o ∧ o.cls = .type "tuple" ∧ o.dict = none) ∨
      (T = "dict" ∧ ((∃ kvs, H p = some (.dK kvs)) ∨ ∃ kvs, H p = some (.dT kvs))) ∨ (T = "set" ∧ ∃ S n, H p = some (.set S n))
  | _ => False
theorem tyV_is {pins : List (Addr × Obj)} {σ : St} {H : Hp} {s : Shared} {T : String} {x : V} {v : Value} (I : Inv X pins σ H s) (r : RelV x v) (ty : tyV X.K T x H) :
    s.TypeIs v T ∧ ∀ a, v = .ref a → ∃ ob, s.heap.get? a = some ob ∧ ob.dict = none := by
  cases x with
  | str z =>
    obtain ⟨t, rfl⟩ := r
    cases (show T = "str" from ty)
    exact ⟨typeIs_str s z t, fun _ e => nomatch e⟩
  | int i =>
    obtain ⟨t, rfl⟩ := r
    cases (show T = "int" from ty)
    exact ⟨typeIs_int s i t, fun _ e => nomatch e⟩
  | ref p =>
    cases r
    rcases ty with ⟨rfl, xs, hq⟩ | ⟨rfl, o, hk, hc, hd⟩ | ⟨rfl, hk⟩ | ⟨rfl, S, n, hk⟩
    · obtain ⟨its, _, pl, _⟩ := I.list hq
      refine ⟨pl.isList.typeIs, fun a e => ?_⟩
      cases e
      obtain ⟨o, n, e, c, hd, _⟩ := pl
      exact ⟨o, e, hd⟩
    · refine ⟨⟨o, I.kIn p o hk, hc⟩, fun a e => ?_⟩
      cases e
      exact ⟨o, I.kIn _ o hk, hd⟩
    · have z : ∃ o, s.heap.get? p = some o ∧ o.ExactDict := by
        rcases hk with ⟨kvs, hk⟩ | ⟨kvs, hk⟩
        · obtain ⟨_, _, _, _, o, _, _, e, ex, _⟩ := I.hok p _ hk
          exact ⟨o, e, ex⟩
        · obtain ⟨_, _, _, _, o, _, _, e, ex, _⟩ := I.hok p _ hk
          exact ⟨o, e, ex⟩
      obtain ⟨o, e, ex⟩ := z
      refine ⟨⟨o, e, ex.1⟩, fun a e2 => ?_⟩
      cases e2
      exact ⟨o, e, ex.2.1⟩
    · obtain ⟨o, _, _, _, e, ex, _⟩ := I.hok p _ hk
      refine ⟨⟨o, e, ex.1⟩, fun a e2 => ?_⟩
      cases e2
      exact ⟨o, e, ex.2.1⟩
  | _ => exact False.elim ty
def tBM0 (K : PySem.W.Frag) (T : String) (r : V → List V → Hp → VK → Prop) (to : TE) : TE := fun σ H Q => to σ H fun x H1 => tyV K T x H1 ∧ r x [] H1 Q
def tBM (K : PySem.W.Frag) (T : String) (r : V → List V → Hp → VK → Prop) (to : TE) (t : TA) : TE := fun σ H Q => to σ H fun x H1 => tyV K T x H1 ∧ t σ H1 fun xs H2 => r x xs H2 Q
variable {o e : Expr} {es : List Expr} {to : TE} {t : TA} {name : Str} {apos cpos : Pos} {T id : String} {r : V → List V → Hp → VK → Prop}
theorem pe_bm0 (pa : PlainAttrs T) (slot : Slot T name id) (hty : typeOf (.builtin id) = pure (.type "method_descriptor")) (hm : MtR X id r) (ho : PE X o to)
    (hbase : attributeBase o name X.env (eval o X.env) = eval o X.env := by rfl) (hline : (apos.endLine == cpos.line) = true := by rfl) : PE X (.Call (.Attribute o name apos) [] [] cpos) (tBM0 X.K T r to) := by
  intro pins s σ H Q I h
  refine wpAny_Call_method0_late hbase hline (thn (ho pins s σ H _ I h) fun v s1 ⟨x, H1, I1, r1, ty, q1⟩ => ?_)
  obtain ⟨h1, h2⟩ := tyV_is I1 r1 ty
  exact ⟨T, id, pa, slot, hty, h1, h2, Calls.callWith_builtin rfl (PySem.evalArgs_none (hm pins s1 σ H1 x [] v [] Q I1 r1 .nil q1))⟩
theorem pe_bm (pa : PlainAttrs T) (slot : Slot T name id) (hty : typeOf (.builtin id) = pure (.type "method_descriptor")) (hm : MtR X id r) (ho : PE X o to) (ha : PA X (e :: es) t)
    (hbase : attributeBase o name X.env (eval o X.env) = eval o X.env := by rfl)
    (hfew : ((backTo cpos (starEach (e :: es) X.env)).all (fun x => !x.1) && (backToKw cpos (keywordEach [] X.env)).all (fun x => x.1.isSome)
      && decide ((e :: es).length + ([] : List Keyword).length + (if ([] : List Keyword).isEmpty then 0 else 1) < 30)) = true := by rfl)
    (hline : (apos.endLine == cpos.line) = true := by rfl) (hs : starEach (e :: es) X.env = (false, eval e X.env) :: starEach es X.env := by rfl) (hplain : (backTo cpos (starEach es X.env)).any (·.1) = false := by rfl) :
    PE X (.Call (.Attribute o name apos) (e :: es) [] cpos) (tBM X.K T r to t) := by
  intro pins s σ H Q I h
  refine wpAny_Call_method_late hbase hfew hline rfl (thn (ho pins s σ H _ I h) fun v s1 ⟨x, H1, I1, r1, ty, q1⟩ => ?_)
  obtain ⟨h1, h2⟩ := tyV_is I1 r1 ty
  refine ⟨T, id, pa, slot, hty, h1, h2, ?_⟩
  have hA := ha cpos pins s1 σ H1 _ I1 q1
  rw [hs] at hA ⊢
  refine Calls.callWith_builtin (by show (false || (backTo cpos (starEach es X.env)).any (·.1)) = false; rw [hplain] <;> rfl) (Calls.evalArgs_plain ?_)
  exact thn hA fun us s2 ⟨vs, H2, I2, r2, q2⟩ => hm pins s2 σ H2 x vs v us Q I2 r1 r2 q2
end
end L2
namespace L2
open PySem PySem.Spec PyProof.Rows
def MtM (X : Cx) (id : String) (r : V → List V → Hp → VK → Prop) : Prop :=
  ∀ (pins : List (Addr × Obj)) (s : Shared) (σ : St) (H : Hp) (x : V) (xs : List V) (v : Value) (us : List Value) (Q : VK), Inv X pins σ H s → RelV x v → Vals xs us → r x xs H Q →
    wpAny (model X.prog X.w) X.A (call (.builtin id) (v :: us)) (EP X pins σ Q) X.xe s
theorem Vals.one : ∀ {x : V} {us : List Value}, Vals [x] us → ∃ u, us = [u] ∧ RelV x u
  | _, _, .cons r .nil => ⟨_, rfl, r⟩
theorem Vals.two : ∀ {x y : V} {us : List Value}, Vals [x, y] us → ∃ u v, us = [u, v] ∧ RelV x u ∧ RelV y v
  | _, _, _, .cons r (.cons q .nil) => ⟨_, _, rfl, r, q⟩
theorem Vals.zero : ∀ {us : List Value}, Vals [] us → us = []
  | _, .nil => rfl
theorem Vals.dropLast {xs : List V} {us : List Value} (h : Vals xs us) : Vals xs.dropLast us.dropLast := by
  induction h with
  | nil => exact .nil
  | cons r t ih =>
    cases t with
    | nil => exact .nil
    | cons q t' => exact .cons r ih
theorem Vals.eraseIdx : ∀ {xs : List V} {us : List Value} (i : Nat), Vals xs us → Vals (xs.eraseIdx i) (us.eraseIdx i)
  | _, _, _, .nil => .nil
  | _, _, 0, .cons _ t => t
  | _, _, i + 1, .cons r t => .cons r (Vals.eraseIdx i t)
theorem Vals.reverse {xs : List V} {us : List Value} (h : Vals xs us) : Vals xs.reverse us.reverse := by
  induction h with
  | nil => exact .nil
  | cons r t ih => rw [List.reverse_cons, List.reverse_cons]; exact Vals.append ih (.cons r .nil)
theorem erase_last {α : Type} (l : List α) : l.eraseIdx (l.length - 1) = l.dropLast := by
  induction l with
  | nil => rfl
  | cons a r ih =>
    cases r with
    | nil => rfl
    | cons b r =>
      have e : (a :: b :: r).length - 1 = ((b :: r).length - 1) + 1 := by
        have h1 : (a :: b :: r).length = r.length + 2 := rfl
        have h2 : (b :: r).length = r.length + 1 := rfl
        omega
      rw [e, List.eraseIdx_cons_succ, ih]
      all_goals rfl
section
variable {X : Cx} {pins : List (Addr × Obj)} {σ : St} {H : Hp} {s : Shared} {l b : Addr} {xs ys zs : List V}
theorem Inv.lset {its its' : List Value} {n : Nat} {f : Array Value → Array Value} {t' : Nat} (I : Inv X pins σ H s) (hH : H l = some (.lst xs))
    (e : s.heap.get? l = some { cls := .type "list", data := .seq its.toArray n }) (hf : f its.toArray = its'.toArray) (hv : Vals ys its') (hz : ys.length ≤ sizeLine) :
    Inv X pins σ (upd H l (.lst ys)) { s with heap := s.heap.update l (Obj.mapSeq f), toks := t' } := by
  have q := PySem.IsL.update e f
  rw [hf] at q
  refine I.write (x := l) (e := l) (by rw [hH]; exact trivial) (.inl rfl) (fun b' u hb hu => (Heap.get?_update_other s.heap (Obj.mapSeq f) (Ne.symm hb)).trans hu) ⟨_, q⟩ ?_
  exact ⟨hz, its', _, hv, q⟩
theorem Inv.lnew {its : List Value} {t' : Nat} (I : Inv X pins σ H s) (hv : Vals ys its) (hz : ys.length ≤ sizeLine) :
    Inv X pins σ (upd H s.heap.objs.size (.lst ys)) { s with heap := s.heap.push { cls := .type "list", data := .seq its.toArray }, toks := t' } :=
  I.laid (fun _ _ q => Heap.get?_push_of_some _ q) (Nat.le_refl _) ⟨hz, its, 0, hv, Heap.get?_push_size _ rfl⟩
theorem Inv.fresh (I : Inv X pins σ H s) : H s.heap.objs.size = none := I.hok.fresh (Nat.le_refl _)
theorem Inv.lstM (I : Inv X pins σ H s) (hH : H l = some (.lst xs)) : xs.length ≤ sizeLine ∧ ∃ (its : List Value) (n : Nat), Vals xs its ∧ xs.length = its.length ∧ s.heap.get? l = some { cls := .type "list", data := .seq its.toArray n } := by
  obtain ⟨z, its, n, r, e⟩ := I.hok l _ hH
  exact ⟨z, its, n, r, r.length, e⟩
theorem notLongL {n : Nat} (h : n ≤ sizeLine) : Builtin.List.listTooLong n = false := by
  unfold Builtin.List.listTooLong
  exact decide_eq_false (by omega)
end
section
variable {X : Cx}
def rAppend : V → List V → Hp → VK → Prop := fun x vs H Q => ∃ l xs y, x = .ref l ∧ vs = [y] ∧ H l = some (.lst xs) ∧ xs.length < sizeLine ∧ Q .non (upd H l (.lst (xs ++ [y])))
theorem mt_append : MtM X "list.append" rAppend := by
  intro pins s σ H x vs v us Q I rx rv h
  obtain ⟨l, xs, y, rfl, rfl, hH, hz, q⟩ := h
  cases rx
  obtain ⟨u, rfl, ru⟩ := rv.one
  obtain ⟨z, its, n, r, hl, e⟩ := I.lstM hH
  refine call_meets F.slot_list_append ⟨_, e, rfl⟩ F.entry_list_append (F.args_list_append_2 _ _) (PySem.list_append l its.toArray n u (by rw [List.size_toArray]; omega)) ⟨e, ?_⟩
  refine ⟨.non, _, I.lset (its' := its ++ [u]) hH e (by simp) (r.append (.cons ru .nil)) ?_, rfl, q⟩
  rw [List.length_append, List.length_singleton]
  omega
def rExtend : V → List V → Hp → VK → Prop := fun x vs H Q => ∃ l b xs zs, x = .ref l ∧ vs = [.ref b] ∧ H l = some (.lst xs) ∧ H b = some (.lst zs) ∧ xs.length + zs.length ≤ sizeLine ∧ Q .non (upd H l (.lst (xs ++ zs)))
theorem mt_extend : MtM X "list.extend" rExtend := by
  intro pins s σ H x vs v us Q I rx rv h
  obtain ⟨l, b, xs, zs, rfl, rfl, hH, hB, hz, q⟩ := h
  cases rx
  obtain ⟨u, rfl, ru⟩ := rv.one
  cases ru
  obtain ⟨z, its, n, r, hl, e⟩ := I.lstM hH
  obtain ⟨z2, its2, n2, r2, hl2, e2⟩ := I.lstM hB
  have hsz : its.toArray.size + its2.toArray.size ≤ sizeLine := by rw [List.size_toArray, List.size_toArray]; omega
  have hlong : ¬ (!its.toArray.isEmpty && Builtin.List.listTooLong (its.toArray.size + its2.toArray.size)) = true := by
    rw [notLongL hsz, Bool.and_false]
    exact Bool.false_ne_true
  refine call_meets F.slot_list_extend ⟨_, e, rfl⟩ F.entry_list_extend (F.args_list_extend_2 _ _)
    (AutoSeq1.list_extend_list_list_0 l its.toArray n b its2.toArray n2 hlong (by rw [List.size_toArray]; omega) (by omega)) ⟨e, e2, ?_⟩
  refine ⟨.non, _, I.lset (its' := its ++ its2) hH e (by simp) (r.append r2) ?_, rfl, q⟩
  rw [List.length_append]
  omega
def rPop : V → List V → Hp → VK → Prop := fun x vs H Q => ∃ l xs y, x = .ref l ∧ vs = [] ∧ H l = some (.lst xs) ∧ xs[xs.length - 1]? = some y ∧ Q y (upd H l (.lst xs.dropLast))
theorem mt_pop : MtM X "list.pop" rPop := by
  intro pins s σ H x vs v us Q I rx rv h
  obtain ⟨l, xs, y, rfl, rfl, hH, hy, q⟩ := h
  cases rx
  have hus := rv.zero
  subst hus
  obtain ⟨z, its, n, r, hl, e⟩ := I.lstM hH
  obtain ⟨u, hu, ru⟩ := r.get hy
  have hy' : its.toArray[its.toArray.size - 1]? = some u := by
    show its.toArray[its.length - 1]? = some u
    rw [← Array.getElem?_toList, ← hl]
    exact hu
  refine call_meets F.slot_list_pop ⟨_, e, rfl⟩ F.entry_list_pop (F.args_list_pop_1 _) (MeetsSeq.list_pop_last l its.toArray n u hy' (by rw [List.size_toArray]; omega)) ⟨e, ?_⟩
  refine ⟨y, _, I.lset (its' := its.dropLast) hH e ?_ r.dropLast ?_, ru, q⟩
  · show its.toArray.eraseIdxIfInBounds (its.toArray.size - 1) = its.dropLast.toArray
    rw [List.size_toArray, List.eraseIdxIfInBounds_toArray, erase_last]
  · rw [List.length_dropLast]
    omega
def rPopAt : V → List V → Hp → VK → Prop := fun x vs H Q => ∃ l xs i k y, x = .ref l ∧ vs = [.int i] ∧ H l = some (.lst xs) ∧ -(2 ^ 63) ≤ i ∧ i < 2 ^ 63 ∧ seqIndex? i xs.length = some k ∧ xs[k]? = some y ∧ Q y (upd H l (.lst (xs.eraseIdx k)))
def rReverse : V → List V → Hp → VK → Prop := fun x vs H Q => ∃ l xs, x = .ref l ∧ vs = [] ∧ H l = some (.lst xs) ∧ Q .non (upd H l (.lst xs.reverse))
theorem mt_reverse : MtM X "list.reverse" rReverse := by
  intro pins s σ H x vs v us Q I rx rv h
  obtain ⟨l, xs, rfl, rfl, hH, q⟩ := h
  cases rx
  have hus := rv.zero
  subst hus
  obtain ⟨z, its, n, r, hl, e⟩ := I.lstM hH
  refine call_meets F.slot_list_reverse ⟨_, e, rfl⟩ F.entry_list_reverse (F.args_list_reverse_1 _) (AutoSeq1.list_reverse_list_0 l its.toArray n (by rw [List.size_toArray]; omega)) ⟨e, ?_⟩
  refine ⟨.non, _, I.lset (its' := its.reverse) hH e (by simp) r.reverse ?_, rfl, q⟩
  rw [List.length_reverse]
  omega
def rClear : V → List V → Hp → VK → Prop := fun x vs H Q => ∃ l xs, x = .ref l ∧ vs = [] ∧ H l = some (.lst xs) ∧ Q .non (upd H l (.lst []))
def rCat : R2 := fun x y H Q => ∃ l b xs zs, x = .ref l ∧ y = .ref b ∧ H l = some (.lst xs) ∧ H b = some (.lst zs) ∧ xs.length + zs.length ≤ sizeLine ∧ ∀ p, H p = none → Q (.ref p) (upd H p (.lst (xs ++ zs)))
theorem op_cat : OpR X (binaryOp .Add) rCat := by
  intro pins s σ H x y v u Q I rx ry h
  obtain ⟨l, b, xs, zs, rfl, rfl, hH, hB, hz, q⟩ := h
  cases rx
  cases ry
  obtain ⟨z, its, n, r, hl, e⟩ := I.lstM hH
  obtain ⟨z2, its2, n2, r2, hl2, e2⟩ := I.lstM hB
  refine PySem.P.add_list e e2 ?_ (by rw [List.size_toArray, List.size_toArray]; omega)
  have ea : its.toArray ++ its2.toArray = (its ++ its2).toArray := by simp
  rw [ea]
  exact ⟨.ref _, _, I.lnew (t' := s.toks) (r.append r2) (by rw [List.length_append]; omega), rfl, q _ I.fresh⟩
def rRep : R2 := fun x y H Q => ∃ l k xs, x = .ref l ∧ y = .int k ∧ H l = some (.lst xs) ∧ -(2 ^ 63) ≤ k ∧ k < 2 ^ 63 ∧ xs.length * k.toNat ≤ sizeLine ∧
  ∀ p, H p = none → Q (.ref p) (upd H p (.lst (List.replicate k.toNat xs).flatten))
end
section
variable {prog : Program} {w : World} {A : Around} {E : Value → Shared → Prop} {s : Shared}
set_option maxRecDepth 100000 in
end
section
variable {X : Cx}
end
end L2
namespace Att
open PySem PySem.W PySem.Calls PyProof.Rows
theorem ints_of_wellAll {P : Params} {h : Heap} : ∀ (ns : List Int) (vs : List Value), WellAll P h vs (ns.map WData.int) → IntsAre vs ns := by
  intro ns
  induction ns with
  | nil =>
    intro vs w
    rw [List.map_nil] at w
    cases w
    exact .nil
  | cons n ns ih =>
    intro vs w
    rw [List.map_cons] at w
    cases w with
    | cons a b =>
      cases a
      exact .cons _ _ (ih _ b)
theorem script_of {l : OpenLaw} {n : Nat} (hn : l.most = some n) {P : Params} {h : Heap} {args : List WData} {vals : List Value}
    (hpre : l.row.toRowW.claim.pre args = true) (hwl : WellAll P h vals args) :
    ∃ a vs ns, vals = [Value.ref a] ∧ args = [WData.list (ns.map WData.int)] ∧ h.get? a = some { cls := .type "list", data := .seq vs.toArray } ∧ IntsAre vs ns ∧ ns.length ≤ n := by
  have hsh : WShape.hasAll [] args [.list .int] = true := (pre_splitW hpre).1
  have hc : l.pre.holds [] { args := args } = true := (pre_splitW hpre).2
  obtain ⟨d, r, rfl, h1, h2⟩ := hasAllW_cons hsh
  obtain rfl := hasAllW_nil h2
  obtain ⟨xs, rfl, h3⟩ := hasW_list h1
  obtain ⟨ns, rfl⟩ := items_int h3
  have hlen : ns.length ≤ n := by
    unfold OpenLaw.pre at hc
    have h4 : (WTm.not (.lt (.lit (.int (n : Int))) (.len (.arg 0)))).holds [] { args := [.list (ns.map .int)] } = true := by
      have h4 := (holds_andW hc).1
      rw [hn] at h4
      exact h4
    have h5 := condW_of h4 (w_not (w_lt w_lit (w_len_list (w_arg rfl))))
    rw [List.length_map] at h5
    refine Nat.le_of_not_lt fun q => ?_
    have q' : (n : Int) < ((ns.length : Nat) : Int) := by omega
    first
      | (rw [decide_eq_true q'] at h5; exact absurd h5 (by decide))
      | (simp at h5; omega)
  cases hwl with
  | cons w1 w2 =>
    cases w2
    cases w1 with
    | list ho hall => exact ⟨_, _, ns, rfl, rfl, ho, ints_of_wellAll ns _ hall, hlen⟩
theorem post_true (l : OpenLaw) (args : List WData) : l.row.toRowW.claim.post args (.bool true) args = true :=
  postW_of (r := l.row.toRowW) (X := (true == true))
    (show WShape.has [] (.bool true) .bool = true by first | rfl | decide | simp [WShape.has, WShape.arms, WShape.armsAll])
    (show (WTm.eq .res (.lit (.bool true))).value [] { args := args, res := some (.bool true), after := args } = some (.bool (true == true)) from w_eq_bool (w_res rfl) w_lit) rfl
theorem attach_call {l : OpenLaw} {n : Nat} {q : Program} {loose : List Str} {XP : (Str → Option Value) → Heap → Prop} {YP : World → Heap → Prop} {d : DefRec}
    (hn : l.most = some n) (hdf : d.params.defaults = [])
    (call : ∀ (w : World) (s₀ s₁ : Shared) (mg mb : Str → Option Value) (fa : Addr) (o : Obj) (pm cd doc : Value) (a : Addr) (vs : List Value) (ns : List Int),
      Ground q loose [] XP w s₀ mg mb s₁.heap → YP w s₁.heap →
      s₁.heap.get? fa = some o → o.data = .func (docDef d.name d.params d.body d.scope pm cd doc) → s₁.heap.CodeRec cd d.name → mg d.name = some (.ref fa) →
      s₁.heap.get? a = some { cls := .type "list", data := .seq vs.toArray } → IntsAre vs ns → ns.length ≤ n → s₁.gens = #[] →
      codeAny (model l.prog w) callerA (.call (.ref fa) ⟨[.ref a], []⟩) (fun r s' => r = .ok (.ret (.bool true)) ∧ OldK s₁.heap s'.heap ∧ s'.os = s₁.os ∧ AllBare s'.gens) s₁) :
    WalkO q loose XP YP l.row.toRowW d [] (fun f vs => PySem.call f vs) := by
  intro w s₀ s₁ mg mb G Y fa o pm cd doc dV kV ho hd hcd hD hmg hg args vals as hpre hlay hrd hwl hlo
  obtain rfl : dV = .none := Dflts.none hD hdf
  obtain rfl : kV = .none := Dflts.noKw hD
  obtain ⟨a, vs, ns, rfl, rfl, hobj, hints, hlen⟩ := script_of hn hpre hwl
  refine enter_call (codeAny_mono (call w s₀ s₁ mg mb fa o pm cd doc a vs ns G Y ho (fd_plain hd) hcd hmg hobj hints hlen hg) fun r s' hq => ?_)
  obtain ⟨rfl, h2, h3, h4⟩ := hq
  exact ⟨.inl ⟨.bool true, .bool true, [], rfl, fun _ => rfl, .bool true, post_true l _, fun _ => ⟨List.Pairwise.nil, fun _ hm => (nomatch hm)⟩⟩, h2, h3, h4⟩
section
variable {prog : Program} {w : World} {A : Around} {E : Value → Shared → Prop} {s : Shared} {K : Frag}
def noObjs (h : Heap) : Heap := { h with objs := #[] }
def ledger (h : Heap) (L d : Addr) : List (Addr × Obj) := (List.range h.objs.size).filterMap fun a => if a = L ∨ a = d then none else (h.get? a).map fun o => (a, o)
end
end Att
namespace L2
open PySem PySem.Spec PyProof.Rows
theorem vals_ints : ∀ {vs : List Value} {ns : List Int}, IntsAre vs ns → Vals (ns.map V.int) vs
  | _, _, .nil => .nil
  | _, _, .cons n t h => .cons ⟨t, rfl⟩ (vals_ints h)
def Only (H : Hp) : Prop := ∀ b, H b = none ∨ ∃ o xs, H b = some (.frz o (.lst xs))
theorem law_call {P : Program} {w : World} {K : PySem.W.Frag} {mg mb : Str → Option Value} {CX : CXT} {k : Nat} {fa a : Addr} {fd : FuncData} {x : Str} {sp : Sp} {s₁ : Shared} {vs : List Value} {ns : List Int}
    (KX : K.In s₁.heap) (hns : s₁.heap.Ns mainGlobals mg) (hb : s₁.heap.Ns builtinsNs mb) (hbb : ∀ x : Str, x ≠ "__name__" → mb x = bootBuiltins x) (hlim : s₁.heap.NoLimit) (hg : s₁.gens = #[])
    (ha : s₁.heap.get? a = some { cls := .type "list", data := .seq vs.toArray }) (hi : IntsAre vs ns) (hl : ns.length ≤ sizeLine) (hr : Room k callerA)
    (F : ∀ base : Heap, K.In base → base.Ns mainGlobals mg → FnOk P w K mg base CX k fa fd [x] sp) (hbind : ∀ (s : Shared) (u : Value), BindsTo s fd ⟨[u], []⟩ [(x, u)])
    (hsp : ∀ H : Hp, Only H → SqL K H a (ns.map V.int) → sp [.ref a] H (fun v _ => v = .bl true) fun _ _ _ => False)
    (hCX : ∀ H e s', CX [] H s₁ (fun _ _ _ => False) e s' → False) :
    codeAny (model P w) callerA (.call (.ref fa) ⟨[.ref a], []⟩) (fun r s' => r = .ok (.ret (.bool true)) ∧ OldK s₁.heap s'.heap ∧ s'.os = s₁.os ∧ AllBare s'.gens) s₁ := by
  have rv := vals_ints hi
  have lenV := hi.length
  have core : ∀ H : Hp, Only H → SqL K H a (ns.map V.int) → HOk P w H s₁.heap → (∀ b, H b ≠ none → b = a) → (H a ≠ none → K.lookup a = none) →
      codeAny (model P w) callerA (.call (.ref fa) ⟨[.ref a], []⟩) (fun r s' => r = .ok (.ret (.bool true)) ∧ OldK s₁.heap s'.heap ∧ s'.os = s₁.os ∧ AllBare s'.gens) s₁ := by
    intro H hO hS hok hA hK
    have base_of : ∀ {b : Addr} {o : Obj}, s₁.heap.get? b = some o → H b = none → (hidT s₁.heap H).get? b = some o := fun e n => hidT_get e n
    have noA : ∀ {b : Addr} {o : Obj} {es : Array DictEntry} {ep : Nat}, s₁.heap.get? b = some o → o.data = .dict es ep → H b = none := fun {b o es ep} e d => by
      cases q : H b with
      | none => rfl
      | some u =>
        have e' : b = a := hA b (by rw [q]; simp)
        subst e'
        rw [ha] at e; cases e
        have d' : Data.seq vs.toArray _ = Data.dict es ep := d
        cases d'
    have nsK : ∀ {b : Addr} {m : Str → Option Value}, s₁.heap.Ns b m → (hidT s₁.heap H).Ns b m := fun {b m} ⟨o, es, ep, e, d, r⟩ => ⟨o, es, ep, base_of e (noA e d), d, r⟩
    have hKb : K.In (hidT s₁.heap H) := fun b o e => base_of (KX b o e) (by
      cases q : H b with
      | none => rfl
      | some u =>
        have e' : b = a := hA b (by rw [q]; simp)
        subst e'
        rw [hK (by rw [q]; simp)] at e; cases e)
    have hM : Mod K mg (hidT s₁.heap H) := ⟨hKb, nsK hns, ⟨mb, nsK hb, hbb⟩, let ⟨mc, h1, h2⟩ := hlim; ⟨mc, nsK h1, h2⟩⟩
    have e0 : Env0 P w K mg (hidT s₁.heap H) callerA [] s₁ H := ⟨rfl, hM, fun b o e => of_hidT e, Nat.le_of_eq (hidT_size _ _), trivial, fun b hb => absurd (show b ∈ ([] : List Addr) from hb) (by simp), hok, .of_eq hg⟩
    refine codeAny_mono ((F _ hKb (nsK hns)).run callerA [] s₁ H ⟨[.ref a], []⟩ [.ref a] [.ref a] _ _ hr e0 (hbind s₁ (.ref a)) (.cons rfl .nil) (hsp H hO hS)) fun r s' h => ?_
    cases r with
    | error e => exact (hCX H e s' h).elim
    | ok fl =>
      cases fl with
      | next => exact False.elim h
      | brk => exact False.elim h
      | cont => exact False.elim h
      | ret u =>
        obtain ⟨v, H', os, bare, un, hok', r', q⟩ := h
        have q' : v = .bl true := q
        subst q'
        obtain rfl : u = Value.bool true := r'
        refine ⟨rfl, OldK.of_keep fun b o e => ?_, os, bare⟩
        cases q : H b with
        | none => exact un.keep b o e q (by intro z; exact absurd (show b ∈ ([] : List Addr) from z) (by simp)) (by simp)
        | some u =>
          rcases hO b with z | ⟨ob, xs, z⟩
          · rw [q] at z; cases z
          · have z2 := un.frzs b ob _ z
            obtain ⟨e1, _⟩ := hok b _ z
            obtain ⟨e2, _⟩ := hok' b _ z2
            rw [e] at e1; cases e1
            exact e2
  cases hk : K.lookup a with
  | some o =>
    have e := KX a o hk
    rw [ha] at e
    cases e
    refine core (fun _ => none) (fun _ => .inl rfl) (.inr ⟨_, vs.toArray, _, hk, rfl, rfl, rfl, by rw [List.size_toArray, lenV]; exact hl, by simpa using rv⟩) (fun b u z => by have z' : (none : Option HO) = some u := z; cases z') (fun b z => absurd rfl z) fun z => absurd rfl z
  | none =>
    refine core (fun b => if b = a then some (.frz { cls := .type "list", data := .seq vs.toArray } (.lst (ns.map V.int))) else none) (fun b => ?_) (.inl (.inr ⟨{ cls := .type "list", data := .seq vs.toArray }, if_pos rfl⟩)) (fun b u z => ?_) (fun b z => ?_) fun _ => hk
    · by_cases hb : b = a
      · exact .inr ⟨_, _, if_pos hb⟩
      · exact .inl (if_neg hb)
    · by_cases hb : b = a
      · have z' := (if_pos hb).symm.trans z
        cases z'
        subst hb
        exact ⟨ha, by rw [List.length_map]; exact hl, vs, _, rv, ha⟩
      · have z' := (if_neg hb).symm.trans z
        cases z'
    · by_cases hb : b = a
      · exact hb
      · exact absurd (if_neg hb) z
end L2
namespace L2
open PySem PySem.Spec PyProof.Rows
abbrev KOf {K : PySem.W.Frag} {h : Heap} (_ : K.In h) : PySem.W.Frag := K
theorem walk_of {l : PySem.W.OpenLaw} {n k : Nat} {q : Program} {loose : List Str} {XP : (Str → Option Value) → Heap → Prop} {YP : World → Heap → Prop} {d : DefRec} {K : Params → PySem.W.Frag} {CX : World → CXT} {sp : World → Sp} {x : Str}
    (hn : l.most = some n) (hn2 : n ≤ sizeLine) (hdf : d.params.defaults = []) (hr : Room k callerA)
    (hY : ∀ (w : World) (h : Heap), YP w h → (K w.params).In h)
    (F : ∀ (w : World) (mg : Str → Option Value) (fa : Addr) (h : Heap), (K w.params).In h → h.Ns mainGlobals mg → mg d.name = some (.ref fa) →
      ∃ fd : FuncData, (∀ (s : Shared) (u : Value), BindsTo s fd ⟨[u], []⟩ [(x, u)]) ∧
        ∀ base : Heap, (K w.params).In base → base.Ns mainGlobals mg → FnOk l.prog w (K w.params) mg base (CX w) k fa fd [x] (sp w))
    (hsp : ∀ (w : World) (H : Hp) (a : Addr) (ns : List Int), ns.length ≤ n → Only H → SqL (K w.params) H a (ns.map V.int) → sp w [.ref a] H (fun v _ => v = .bl true) fun _ _ _ => False)
    (hCX : ∀ (w : World) (H : Hp) (s : Shared) (e : Value) (s' : Shared), CX w [] H s (fun _ _ _ => False) e s' → False) :
    PySem.W.WalkO q loose XP YP l.row.toRowW d [] (fun f vs => PySem.call f vs) := by
  refine Att.attach_call hn hdf fun w s₀ s₁ mg mb fa o pm cd doc a vs ns G Y ho hd hcd hmg hobj hints hlen hg => ?_
  have KX := hY w _ Y
  obtain ⟨fd, hb, hF⟩ := F w mg fa _ KX G.T.g hmg
  exact law_call KX G.T.g G.T.b G.T.builtins G.T.nolimit hg hobj hints (Nat.le_trans hlen hn2) hr hF hb (fun H hO hS => hsp w H a ns hlen hO hS) fun H e s' => hCX w H s₁ e s'
end L2
namespace L2
open PySem PySem.Spec PyProof.Rows
def inClass (s : Stmt) (j : Nat) : Stmt := match s with
  | .ClassDef _ _ _ body _ _ _ _ _ _ _ => body.getD j (.Pass ⟨0, 0, 0, 0⟩)
  | _ => .Pass ⟨0, 0, 0, 0⟩
def defArgs (s : Stmt) : Arguments := match s with
  | .FunctionDef _ a _ _ _ _ _ _ _ _ => a
  | _ => { posonlyargs := [], args := [], vararg := none, kwonlyargs := [], kw_defaults := [], kwarg := none, defaults := [] }
def defBody (s : Stmt) : List Stmt := match s with
  | .FunctionDef _ _ b _ _ _ _ _ _ _ => b
  | _ => []
def defScope (s : Stmt) : Scope := match s with
  | .FunctionDef _ _ _ _ _ _ sc _ _ _ => sc
  | _ => { kind := .function, names := [], isGenerator := false, isCoroutine := false }
abbrev CX0 : CXT := fun _ _ _ _ _ _ => False
abbrev E0 : XK := fun _ _ _ => False
theorem pass0 {X : Cx} : Passes CX0 X E0 := fun _ _ _ _ _ _ _ h => h.elim
structure Fun (K : PySem.W.Frag) (x qual : Str) (st : Stmt) (f : Addr) (fd : FuncData) : Prop where
  ex : ∃ (oc : Value) (od : Option Addr) (kV doc pm : Value) (an : Option Addr) (cdv ct : Value) (osl : Array (Option Value)),
    fd = PySem.W.fnOf x qual (defArgs st) (defBody st) (defScope st) .none kV doc pm an cdv ct ∧ K.lookup f = some ⟨oc, od, .func fd, osl⟩ ∧ PySem.W.codeIn K cdv qual = true
  kp : PySem.W.keepIn K (.ref f) = true
section
variable {P : Program} {w : World} {K : PySem.W.Frag} {mg : Str → Option Value} {base : Heap}
theorem Fun.ok {x qual : Str} {st : Stmt} {f : Addr} {fd : FuncData} {N ps : List Str} {k : Nat} {sp : Sp} (F : Fun K x qual st f fd) (S : FnScope N ps (defScope st)) (len : ∀ vs H Q E, sp vs H Q E → vs.length = ps.length)
    (hbody : ∀ (cdv : Value) (A : Around) (outer : List Env) (s : Shared) (H : Hp) (vs : List V) (Q : VK) (E : XK), Room k (A.deeper (envOfC qual (defScope st) s.heap.objs.size f cdv)) → sp vs H Q E →
      ∃ t, PSs (cxOf CX0 P w K mg base N qual (defScope st) f cdv A outer s H E).nox (defBody st) t ∧ t { nx := fun _ H' => Q .non H', rt := Q } (start N vs) H) : FnOk P w K mg base CX0 (k + 1) f fd ps sp := by
  obtain ⟨oc, od, kV, doc, pm, an, cdv, ct, osl, rfl, lk, hcd⟩ := F.ex
  refine fn_of lk hcd S len fun A outer s H vs Q E hr hsp => ?_
  obtain ⟨t, h, q⟩ := hbody cdv A outer s H vs Q E hr hsp
  exact ⟨t, h.nox, q⟩
theorem Fun.binds {x qual : Str} {st : Stmt} {f : Addr} {fd : FuncData} {ps : List Str} (F : Fun K x qual st f fd)
    (h : ∀ (kV doc pm : Value) (an : Option Addr) (cdv ct : Value) (us : List Value), us.length = ps.length → bindArgs (PySem.W.fnOf x qual (defArgs st) (defBody st) (defScope st) .none kV doc pm an cdv ct) ⟨us, []⟩ = pure (ps.zip us)) : Binds K fd ps [] := by
  obtain ⟨oc, od, kV, doc, pm, an, cdv, ct, osl, rfl, lk, hcd⟩ := F.ex
  exact .all (h kV doc pm an cdv ct)
theorem fun_mk {x qual : Str} {st : Stmt} {f : Addr} {oc : Value} {od an : Option Addr} {osl : Array (Option Value)} {kV doc pm cdv ct : Value} (l : K.lookup f = some ⟨oc, od, .func (PySem.W.fnOf x qual (defArgs st) (defBody st) (defScope st) .none kV doc pm an cdv ct), osl⟩)
    (c : PySem.W.codeIn K cdv qual = true) (k : PySem.W.keepIn K (.ref f) = true) : Fun K x qual st f (PySem.W.fnOf x qual (defArgs st) (defBody st) (defScope st) .none kV doc pm an cdv ct) := ⟨⟨oc, od, kV, doc, pm, an, cdv, ct, osl, rfl, l, c⟩, k⟩
end
theorem small1000 {n : Nat} (h : n ≤ 1000) : n < sizeLine := Nat.lt_of_le_of_lt h (by decide)
section
variable {X : Cx}
theorem pv (i : Nat) {x : Str} {pos : Pos} (hN : X.N[i]? = some x := by rfl) (hv : Vis X.env.scope x := by first | exact Or.inl rfl | exact Or.inr (Or.inl rfl) | exact Or.inr (Or.inr rfl)) (hd : (x == ("__debug__" : Str)) = false := by decide)
    (hcd : (x == ("__classdict__" : Str)) = false := by decide) : PE X (.Name x pos) (tVar i) := pe_var hN hv hd hcd
end
theorem iteF {A B : Prop} (h : B) : if false = true then A else B := by
  rw [if_neg Bool.false_ne_true]
  exact h
theorem iteT {A B : Prop} (h : A) : if true = true then A else B := by
  rw [if_pos rfl]
  exact h
def Same (H H' : Hp) : Prop := ∀ b o, H b = some o → H' b = some o
theorem Same.refl (H : Hp) : Same H H := fun _ _ h => h
theorem Same.trans {H H1 H2 : Hp} (a : Same H H1) (b : Same H1 H2) : Same H H2 := fun c o h => b c o (a c o h)
theorem Same.free {H H' : Hp} (e : Same H H') {l : Addr} (h : H' l = Option.none) : H l = Option.none := by
  cases q : H l with
  | none => rfl
  | some o =>
    rw [e l o q] at h
    cases h
theorem Same.seq {K : PySem.W.Frag} {H H' : Hp} {a : Addr} {xs : List V} (e : Same H H') (h : SqL K H a xs) : SqL K H' a xs := by
  rcases h with (h | ⟨o, h⟩) | h
  · exact .inl (.inl (e _ _ h))
  · exact .inl (.inr ⟨o, e _ _ h⟩)
  · exact .inr h
end L2
set_option Elab.async false
set_option linter.all false
set_option maxRecDepth 100000
set_option maxHeartbeats 4000000
namespace L2
open PySem PySem.Spec PyProof.Rows
abbrev GL : Int := 100000000000000000000000000000000000000000000000000000000000000000000000000000000000000000000000000000000000000000000000000000000000000000000000000000000000000000000000000000000000000000000000000000000
theorem bits_GL {k : Int} (h1 : -GL < k) (h2 : k < GL) : Builtin.Int.intBits k ≤ 1000 := by
  unfold Builtin.Int.intBits
  split
  · exact Nat.zero_le _
  · have hn : k.natAbs < 100000000000000000000000000000000000000000000000000000000000000000000000000000000000000000000000000000000000000000000000000000000000000000000000000000000000000000000000000000000000000000000000000000000 := by
      unfold GL at h1 h2; omega
    have hp : (100000000000000000000000000000000000000000000000000000000000000000000000000000000000000000000000000000000000000000000000000000000000000000000000000000000000000000000000000000000000000000000000000000000 : Nat) ≤ 2 ^ 999 := by decide +kernel
    have : k.natAbs.log2 < 999 := by
      rcases Nat.eq_zero_or_pos k.natAbs with h0 | hp'
      · rw [h0]; decide
      · exact (Nat.log2_lt (Nat.ne_of_gt hp')).mpr (Nat.lt_of_lt_of_le hn hp)
    omega
def CMulB (i j : Int) : Prop := (-GL < i ∧ i < GL) ∧ (-GL < j ∧ j < GL)
theorem CMulB.ok {i j : Int} (h : CMulB i j) : IntMulOk i j := PySem.IntMulOk.of_le (bits_GL h.1.1 h.1.2) (bits_GL h.2.1 h.2.2) (by decide)
def CMulA (i j : Int) : Prop := CMul i j ∨ CMulB i j
def CDivB (i j : Int) : Prop := 0 < j ∧ j < GL
def CDivS (i j : Int) : Prop := j ≠ 0 ∧ -GL < j ∧ j < GL
theorem noPy {i j : Int} (h1 : -GL < j) (h2 : j < GL) : Builtin.divisionGoesByPylong i j = false := by
  refine PyProof.noPylong_of_log2 ?_
  have hn : j.natAbs < 100000000000000000000000000000000000000000000000000000000000000000000000000000000000000000000000000000000000000000000000000000000000000000000000000000000000000000000000000000000000000000000000000000000 := by
    unfold GL at h1 h2; omega
  have hp : (100000000000000000000000000000000000000000000000000000000000000000000000000000000000000000000000000000000000000000000000000000000000000000000000000000000000000000000000000000000000000000000000000000000 : Nat) ≤ 2 ^ 999 := by decide +kernel
  have : j.natAbs.log2 < 999 := by
    rcases Nat.eq_zero_or_pos j.natAbs with h0 | hp'
    · rw [h0]; decide
    · exact (Nat.log2_lt (Nat.ne_of_gt hp')).mpr (Nat.lt_of_lt_of_le hn hp)
  omega
section
variable {X : Cx} {a b : Expr} {ta tb : TE} {pos : Pos}
theorem op_mulA : OpR X (binaryOp .Mult) (rI CMulA fun i j => .int (i * j)) := opI fun _ _ _ _ _ _ _ hc q => mul_int q (hc.elim CMul.ok CMulB.ok)
theorem op_fdivB : OpR X (binaryOp .FloorDiv) (rI CDivB fun i j => .int (i / j)) := opI fun i j _ _ _ _ _ hc q => by
  have h1 : (0 : Int) < j := hc.1
  have h2 := hc.2
  exact floordiv_int (by omega) (by rw [Int.fdiv_eq_ediv_of_nonneg i (by omega)]; exact q) (.inl (noPy (by unfold GL; omega) h2))
theorem pe_powK {i j k : Int} {n1 n2 : Nat} {p1 p2 : Pos} (hc : CPow i j) (e : i ^ j.toNat = k) : PE X (.BinOp (.Constant (.int i) n1 p1) .Pow (.Constant (.int j) n2 p2) pos) (tC (.int k)) := by
  intro pins s σ H Q I h
  refine pe_op op_pow pe_int pe_int pins s σ H Q I ⟨i, j, rfl, rfl, hc, ?_⟩
  show Q (.int (i ^ j.toNat)) H
  rw [e]; exact h
def clsV : V → Value
  | .ty T => .type T
  | .ref C => .ref C
  | _ => .none
def rIsi (K : PySem.W.Frag) : List V → Hp → VK → Prop := fun xs H Q => ∃ x c t b, xs = [x, c] ∧ TyOf K H x t ∧ (∃ T, c = .ty T ∨ ∃ C, c = .ref C) ∧ PySem.W.kitOne K t (clsV c) = some b ∧ Q (.bl b) H
theorem call_isi : CallR X (.builtin "isinstance") (rIsi X.K) := by
  intro pins s σ H xs us Q I r h
  obtain ⟨x, c, t, b, rfl, ty, hc, e, q⟩ := h
  obtain ⟨v, w, rfl, rx, rw'⟩ := vals2 r
  have : w = clsV c := by
    obtain ⟨T, rfl | ⟨C, rfl⟩⟩ := hc
    · exact rw'
    · exact rw'
  subst this
  exact isinst_ok I rx ty e fun tk => ⟨.bl b, H, I.tok _, rfl, q⟩
def eqVs (xs ys : List V) : Bool := (List.range (min xs.length ys.length)).all (fun j => eqV (xs.getD j .non) (ys.getD j .non)) && xs.length == ys.length
theorem Vals.getD : ∀ {xs : List V} {us : List Value} (j : Nat) (h : j < us.length), Vals xs us → RelV (xs.getD j .non) us[j]
  | _, _, j, h, .nil => absurd h (Nat.not_lt_zero _)
  | _, _, 0, _, .cons r _ => r
  | _, _, j + 1, h, .cons _ t => Vals.getD j (Nat.lt_of_succ_lt_succ h) t
def rEqT (K : PySem.W.Frag) : R2 := fun x y H Q => ∃ p q xs ys, x = .ref p ∧ y = .ref q ∧ SqT K H p xs ∧ SqT K H q ys ∧ xs.all flatV = true ∧ ys.all flatV = true ∧ Q (.bl (eqVs xs ys)) H
end
end L2
set_option Elab.async false
set_option linter.all false
set_option maxRecDepth 100000
set_option maxHeartbeats 4000000
namespace L2
open PySem PySem.Spec PyProof.Rows
def Has (P : Program) (w : World) (K : PySem.W.Frag) (mg : Str → Option Value) (base : Heap) (x : Str) (k : Nat) (ps : List Str) (sp : Sp) : Prop :=
  ∃ (f : Addr) (fd : FuncData), FnOk P w K mg base CX0 k f fd ps sp ∧ mg x = some (.ref f) ∧ PySem.W.keepIn K (.ref f) = true ∧ Binds K fd ps []
theorem pe_callH {X : Cx} {x : Str} {k n : Nat} {ps : List Str} {sp : Sp} {p pos : Pos} {e : Expr} {es : List Expr} {t : TA} (F : Has X.prog X.w X.K X.mg X.base x k ps sp) (hr : Room n X.A) (hg : Gl X x) (ha : PA X (e :: es) t) (hk : k ≤ n := by decide)
    (hdb : (x == ("__debug__" : Str)) = false := by decide) (he : starEach (e :: es) X.env = (false, eval e X.env) :: starEach es X.env := by rfl) (hpl : (backTo pos (starEach es X.env)).any (·.1) = false := by rfl) :
    PE X (.Call (.Name x p) (e :: es) [] pos) (tCall sp [] E0 t) := by
  obtain ⟨f, fd, G, hm, kp, hb⟩ := F
  exact pe_call G (hr.mono hk) hg hm kp hb .nil pass0 ha hdb he hpl
theorem pe_callBH {X : Cx} {x : Str} {id : String} {p pos : Pos} {e : Expr} {es : List Expr} {t : TA} {r : List V → Hp → VK → Prop} (hc : CallR X (.builtin id) r) (hm : X.mg x = none) (hg : Gl X x) (hv : bootBuiltins x = some (.builtin id)) (ha : PA X (e :: es) t) (hn : x ≠ "__name__" := by decide) (hdb : (x == ("__debug__" : Str)) = false := by decide)
    (he : starEach (e :: es) X.env = (false, eval e X.env) :: starEach es X.env := by rfl) (hpl : (backTo pos (starEach es X.env)).any (·.1) = false := by rfl) : PE X (.Call (.Name x p) (e :: es) [] pos) (tCB r t) :=
  pe_callB hc hg hm hv ha hn hdb he hpl
theorem same_new {H : Hp} {p : Addr} (h : H p = none) (o : HO) : Same H (upd H p o) := fun b u q => by rw [upd_ne (ne_of_none q h)]; exact q
theorem Same.at {H H' : Hp} (g : Same H H') {b : Addr} {o : HO} (h : H b = some o) : H' b = some o := g b o h
theorem small {n : Nat} (h : n ≤ 1000) : n ≤ sizeLine := Nat.le_of_lt (small1000 h)
section
variable {σ : St} {H : Hp} {Q : VK} {D : Ends} {K : PySem.W.Frag}
theorem r_var {i : Nat} {v : V} (e : σ[i]? = some (some v)) (h : Q v H) : tVar i σ H Q := ⟨v, e, h⟩
theorem r_c {v : V} (h : Q v H) : tC v σ H Q := h
theorem r_op {r : R2} {ta tb : TE} (h : ta σ H fun x H1 => tb σ H1 fun y H2 => r x y H2 Q) : tOp r ta tb σ H Q := h
theorem r_I {C : Int → Int → Prop} {g : Int → Int → V} {i j : Int} (hc : C i j) (h : Q (g i j) H) : rI C g (.int i) (.int j) H Q := ⟨i, j, rfl, rfl, hc, h⟩
theorem r_I0 {g : Int → Int → V} {i j : Int} (h : Q (g i j) H) : rI0 g (.int i) (.int j) H Q := ⟨i, j, rfl, rfl, h⟩
theorem r_eqI {i j : Int} (h : Q (.bl (decide (i = j))) H) : rEq (.int i) (.int j) H Q := ⟨rfl, by rw [show decide (V.int i = V.int j) = decide (i = j) by by_cases e : i = j <;> simp [e]]; exact h⟩
theorem r_neI {i j : Int} (h : Q (.bl (!decide (i = j))) H) : rNe (.int i) (.int j) H Q := ⟨rfl, by rw [show decide (V.int i = V.int j) = decide (i = j) by by_cases e : i = j <;> simp [e]]; exact h⟩
theorem r_eqS {x y : Str} {b : Bool} (e : decide (x = y) = b) (h : Q (.bl b) H) : rEq (.str x) (.str y) H Q := ⟨rfl, by rw [show decide (V.str x = V.str y) = decide (x = y) by by_cases e : x = y <;> simp [e], e]; exact h⟩
theorem r_test {t : TE} {R : Bool → Hp → Prop} (h : t σ H fun x H' => ∃ k, x = .bl k ∧ R k H') : tTest t σ H R := h
theorem r_tB {t : TE} {R : Bool → Hp → Prop} (h : t σ H fun x H' => ∃ k, x = .bl k ∧ R k H') : tB t σ H R := h
theorem r_exbl {b : Bool} {R : Bool → Prop} (h : R b) : ∃ k, V.bl b = .bl k ∧ R k := ⟨b, rfl, h⟩
theorem r_and {t u : TT} {R : Bool → Hp → Prop} (h : t σ H fun c H1 => if c = true then u σ H1 R else R false H1) : tAnd t u σ H R := h
theorem r_or {t u : TT} {R : Bool → Hp → Prop} (h : t σ H fun c H1 => if c = true then R true H1 else u σ H1 R) : tOr t u σ H R := h
theorem r_not {t : TT} {R : Bool → Hp → Prop} (h : t σ H fun c H1 => R (!c) H1) : tNot t σ H R := h
theorem r_andV {ta tb : TE} (h : ta σ H fun x H1 => ∃ c, x = .bl c ∧ if c = true then tb σ H1 Q else Q (.bl false) H1) : tAndV ta tb σ H Q := h
theorem r_notV {ta : TE} (h : ta σ H fun x H1 => ∃ c, x = .bl c ∧ Q (.bl (!c)) H1) : tNotV ta σ H Q := h
theorem r_ifE {t : TT} {ta tb : TE} (h : t σ H fun c H1 => if c = true then ta σ H1 Q else tb σ H1 Q) : tIf t ta tb σ H Q := h
theorem r_chain {r r' : R2} {ta tb tc : TE} (h : ta σ H fun x H1 => tb σ H1 fun y H2 => r x y H2 fun z H3 => ∃ k, z = .bl k ∧ (if k = true then tc σ H3 fun w' H4 => r' y w' H4 Q else Q (.bl false) H3)) : tChain r r' ta tb tc σ H Q := h
theorem r_seq {t u : TS} (h : t { D with nx := u D } σ H) : tSeq t u D σ H := h
theorem r_next (h : D.nx σ H) : tNext D σ H := h
theorem r_asg {te : TE} {g : TG} (h : te σ H fun x H1 => g x σ H1 D.nx) : tAsg te g D σ H := h
theorem r_name {i : Nat} {v : V} {R : St → Hp → Prop} (h : R (σ.set i (some v)) H) : gName i v σ H R := h
theorem r_ret {te : TE} (h : te σ H D.rt) : tRet te D σ H := h
theorem r_drop {te : TE} (h : te σ H fun _ H1 => D.nx σ H1) : tDrop te D σ H := h
theorem r_ifS {c : TT} {t u : TS} (h : c σ H fun b H1 => if b = true then t D σ H1 else u D σ H1) : tIfS c t u D σ H := h
theorem r_nil {R : List V → Hp → Prop} (h : R [] H) : tNil σ H R := h
theorem r_cons {ta : TE} {tr : TA} {R : List V → Hp → Prop} (h : ta σ H fun x H1 => tr σ H1 fun xs H2 => R (x :: xs) H2) : tCons ta tr σ H R := h
theorem r_call {sp : Sp} {dvs : List V} {E : XK} {t : TA} (h : t σ H fun vs H1 => sp (vs ++ dvs) H1 Q E) : tCall sp dvs E t σ H Q := h
theorem r_cb {r : List V → Hp → VK → Prop} {t : TA} (h : t σ H fun vs H1 => r vs H1 Q) : tCB r t σ H Q := h
def kTup (Q : VK) (xs : List V) (H : Hp) : Prop := xs.length ≤ sizeLine ∧ ∀ p, H p = none → Q (.ref p) (upd H p (.tup xs))
def kLst (Q : VK) (xs : List V) (H : Hp) : Prop := xs.length ≤ sizeLine ∧ ∀ p, H p = none → Q (.ref p) (upd H p (.lst xs))
theorem r_tup {t : TA} (h : t σ H (kTup Q)) : tTup t σ H Q := h
theorem r_lst {t : TA} (h : t σ H (kLst Q)) : tLst t σ H Q := h
theorem r_kTup {xs : List V} (hz : xs.length ≤ sizeLine) (h : ∀ p H', Same H H' → H' p = some (.tup xs) → Q (.ref p) H') : kTup Q xs H := ⟨hz, fun p hp => h p _ (same_new hp _) upd_same⟩
theorem r_kLst {xs : List V} (hz : xs.length ≤ sizeLine) (h : ∀ p H', Same H H' → H' p = some (.lst xs) → Q (.ref p) H') : kLst Q xs H := ⟨hz, fun p hp => h p _ (same_new hp _) upd_same⟩
theorem r_ixL {p : Addr} {xs : List V} {i : Int} {v : V} (h : SqL K H p xs) (e : atI xs i = some v) (q : Q v H) : rIxL K (.ref p) (.int i) H Q := ⟨p, xs, i, v, rfl, rfl, h, e, q⟩
theorem r_isi {x c : V} {t : Value} {b : Bool} (ty : TyOf K H x t) (hc : ∃ T, c = .ty T ∨ ∃ C, c = .ref C) (e : PySem.W.kitOne K t (clsV c) = some b) (q : Q (.bl b) H) : rIsi K [x, c] H Q := ⟨x, c, t, b, rfl, ty, hc, e, q⟩
end
def CPos (_ j : Int) : Prop := 0 < j
def CNn (_ j : Int) : Prop := 0 ≤ j
def CNz (_ j : Int) : Prop := j ≠ 0
theorem op_modP {X : Cx} : OpR X (binaryOp .Mod) (rI CPos fun i j => .int (i % j)) := op_mod
theorem op_shrP {X : Cx} : OpR X (binaryOp .RShift) (rI CNn fun i j => .int (i / 2 ^ j.toNat)) := op_shr
section
variable {σ : St} {H : Hp} {Q : VK} {D : Ends} {K : PySem.W.Frag}
theorem r_exN {W : Nat → St → Hp → Prop} {m : Nat} {tb : TS} (h : tb { D with nx := fun σ' H' => ∃ m', m' < m ∧ W m' σ' H', ct := fun σ' H' => ∃ m', m' < m ∧ W m' σ' H', bk := D.nx } σ H) :
    ∃ N : St → Hp → Prop, (∀ σ' H', N σ' H' → ∃ m', m' < m ∧ W m' σ' H') ∧ tb { D with nx := N, ct := N, bk := D.nx } σ H := ⟨_, fun _ _ h => h, h⟩
theorem r_while {c : TT} {tb : TS} (W : Nat → St → Hp → Prop) (h0 : ∃ m, W m σ H) (hs : ∀ m σ H, W m σ H → c σ H fun b H1 => if b = true then ∃ N : St → Hp → Prop, (∀ σ' H', N σ' H' → ∃ m', m' < m ∧ W m' σ' H') ∧ tb { D with nx := N, ct := N, bk := D.nx } σ H1 else D.nx σ H1) : tWhile c tb D σ H := ⟨W, h0, hs⟩
def kForL (K : PySem.W.Frag) (g : TG) (tb : TS) (D : Ends) (σ : St) (x : V) (H : Hp) : Prop := ∃ a, x = .ref a ∧ (∃ xs, SqL K H a xs) ∧ ∃ W : Nat → Nat → St → Hp → Prop, (∃ m, W 0 m σ H) ∧ ∀ i m σ H, W i m σ H →
  ((Itl K a).stop i H ∧ D.nx σ H) ∨ ((Itl K a).go i H ∧ ∃ N : St → Hp → Prop, (∀ σ' H', N σ' H' → ∃ m', m' < m ∧ W (i + 1) m' σ' H') ∧ ∀ x H', (Itl K a).yld i H x H' → g x σ H' fun σ2 H2 => tb { D with nx := N, ct := N, bk := D.nx } σ2 H2)
theorem r_forL {tl : TE} {g : TG} {tb : TS} (h : tl σ H (kForL K g tb D σ)) : tFor (iList K tl) g tb D σ H := h
theorem r_kForL {g : TG} {tb : TS} {a : Addr} {xs : List V} (hx : SqL K H a xs) (Pv : Nat → St → Hp → Prop) (h0 : Pv 0 σ H) (hl : ∀ i σ H, i ≤ xs.length → Pv i σ H → SqL K H a xs)
    (hs : ∀ i x σ H, xs[i]? = some x → Pv i σ H → g x σ H fun σ2 H2 => tb { D with nx := Pv (i + 1), ct := Pv (i + 1), bk := D.nx } σ2 H2) (hd : ∀ σ H, Pv xs.length σ H → D.nx σ H) : kForL K g tb D σ (.ref a) H := ⟨a, rfl, ⟨xs, hx⟩, for_list Pv h0 hl hs hd⟩
def kForR (g : TG) (tb : TS) (D : Ends) (σ : St) (vs : List V) (H : Hp) : Prop := ∃ j : Int, vs = [.int j] ∧ -(2 ^ 62) ≤ j ∧ j < 2 ^ 62 ∧ ∃ W : Nat → Nat → St → Hp → Prop, (∃ m, W 0 m σ H) ∧ ∀ i m σ H, W i m σ H →
  ((Itr 0 j.toNat).stop i H ∧ D.nx σ H) ∨ ((Itr 0 j.toNat).go i H ∧ ∃ N : St → Hp → Prop, (∀ σ' H', N σ' H' → ∃ m', m' < m ∧ W (i + 1) m' σ' H') ∧ ∀ x H', (Itr 0 j.toNat).yld i H x H' → g x σ H' fun σ2 H2 => tb { D with nx := N, ct := N, bk := D.nx } σ2 H2)
theorem r_forR {ta : TA} {g : TG} {tb : TS} (h : ta σ H (kForR g tb D σ)) : tFor (iRng1 ta) g tb D σ H := h
theorem r_kForR {g : TG} {tb : TS} {j : Int} (h1 : -(2 ^ 62) ≤ j) (h2 : j < 2 ^ 62) (Pv : Nat → St → Hp → Prop) (h0 : Pv 0 σ H)
    (hs : ∀ i σ H, i < j.toNat → Pv i σ H → g (.int (0 + i)) σ H fun σ2 H2 => tb { D with nx := Pv (i + 1), ct := Pv (i + 1), bk := D.nx } σ2 H2) (hd : ∀ σ H, Pv j.toNat σ H → D.nx σ H) : kForR g tb D σ [.int j] H := ⟨j, rfl, h1, h2, for_range Pv h0 hs hd⟩
end
theorem r_ix2 {H : Hp} {Q : VK} {K : PySem.W.Frag} {p : Addr} {a b : V} {i : Int} (h : H p = some (.lst [a, b])) (hi : i = 0 ∨ i = 1) (q0 : i = 0 → Q a H) (q1 : i = 1 → Q b H) : rIxL K (.ref p) (.int i) H Q := by
  rcases hi with rfl | rfl
  · exact r_ixL (SqL.of h) rfl (q0 rfl)
  · exact r_ixL (SqL.of h) rfl (q1 rfl)
def rAbs : List V → Hp → VK → Prop := fun xs H Q => ∃ i, xs = [.int i] ∧ Q (.int (if i < 0 then -i else i)) H
def rMax2 : List V → Hp → VK → Prop := fun xs H Q => ∃ i j, xs = [.int i, .int j] ∧ Q (.int (if j > i then j else i)) H
def rMin2 : List V → Hp → VK → Prop := fun xs H Q => ∃ i j, xs = [.int i, .int j] ∧ Q (.int (if j < i then j else i)) H
def rInt1 : List V → Hp → VK → Prop := fun xs H Q => (∃ i, xs = [.int i] ∧ Q (.int i) H) ∨ ∃ k, xs = [.bl k] ∧ Q (.int (if k then 1 else 0)) H
def rLenS (K : PySem.W.Frag) : List V → Hp → VK → Prop := fun xs H Q => ∃ p ys, xs = [.ref p] ∧ (SqL K H p ys ∨ SqT K H p ys) ∧ Q (.int ys.length) H
section
variable {X : Cx} {H : Hp} {Q : VK} {K : PySem.W.Frag}
theorem call_max2N (hc : X.calm = true) : CallR X (.builtin "max") rMax2 := call_max2 hc
theorem call_int1N : CallR X (.type "int") rInt1 := call_int1
theorem call_lenN : CallR X (.builtin "len") (rLenS X.K) := call_len_seq
theorem r_max2A {i j : Int} (h : ∀ k : Int, (i < j ∧ k = j) ∨ (j ≤ i ∧ k = i) → Q (.int k) H) : rMax2 [.int i, .int j] H Q := ⟨i, j, rfl, h _ (by split <;> omega)⟩
theorem r_int1b {k : Bool} (h : Q (.int (if k then 1 else 0)) H) : rInt1 [.bl k] H Q := .inr ⟨k, rfl, h⟩
theorem r_lenL {p : Addr} {ys : List V} (h : SqL K H p ys) (q : Q (.int ys.length) H) : rLenS K [.ref p] H Q := ⟨p, ys, rfl, .inl h, q⟩
end
theorem bo_int : bootBuiltins "int" = some (.type "int") := by decide +kernel
theorem bo_bool : bootBuiltins "bool" = some (.type "bool") := by decide +kernel
theorem bo_str : bootBuiltins "str" = some (.type "str") := by decide +kernel
theorem bo_isinstance : bootBuiltins "isinstance" = some (.builtin "isinstance") := by decide +kernel
theorem bo_max : bootBuiltins "max" = some (.builtin "max") := by decide +kernel
theorem bo_len : bootBuiltins "len" = some (.builtin "len") := by decide +kernel
def kitC (T T' : String) : Option Bool := if (Value.type T == Value.type T') = true then some true else if PySem.W.kitMeta T' = true then (fastBuiltinMro T).map (·.contains (Value.type T')) else none
theorem kit_ty (K : PySem.W.Frag) (T T' : String) {b : Bool} (h : kitC T T' = some b) : PySem.W.kitOne K (.type T) (.type T') = some b := h
theorem kit_int_int (K : PySem.W.Frag) : PySem.W.kitOne K (.type "int") (.type "int") = some true := kit_ty K _ _ (by decide +kernel)
theorem kit_int_bool (K : PySem.W.Frag) : PySem.W.kitOne K (.type "int") (.type "bool") = some false := kit_ty K _ _ (by decide +kernel)
theorem kit_bool_int (K : PySem.W.Frag) : PySem.W.kitOne K (.type "bool") (.type "int") = some true := kit_ty K _ _ (by decide +kernel)
theorem kit_str_int (K : PySem.W.Frag) : PySem.W.kitOne K (.type "str") (.type "int") = some false := kit_ty K _ _ (by decide +kernel)
theorem kit_str_str (K : PySem.W.Frag) : PySem.W.kitOne K (.type "str") (.type "str") = some true := kit_ty K _ _ (by decide +kernel)
theorem kit_list_int (K : PySem.W.Frag) : PySem.W.kitOne K (.type "list") (.type "int") = some false := kit_ty K _ _ (by decide +kernel)
theorem kit_tuple_int (K : PySem.W.Frag) : PySem.W.kitOne K (.type "tuple") (.type "int") = some false := kit_ty K _ _ (by decide +kernel)
theorem kit_NoneType_int (K : PySem.W.Frag) : PySem.W.kitOne K (.type "NoneType") (.type "int") = some false := kit_ty K _ _ (by decide +kernel)
theorem kit_dict_int (K : PySem.W.Frag) : PySem.W.kitOne K (.type "dict") (.type "int") = some false := kit_ty K _ _ (by decide +kernel)
section
variable {H : Hp} {Q : VK} {K : PySem.W.Frag}
theorem r_isi_ii {i : Int} (q : Q (.bl true) H) : rIsi K [.int i, .ty "int"] H Q := r_isi (.int i) ⟨_, .inl rfl⟩ (kit_int_int K) q
theorem r_isi_ib {i : Int} (q : Q (.bl false) H) : rIsi K [.int i, .ty "bool"] H Q := r_isi (.int i) ⟨_, .inl rfl⟩ (kit_int_bool K) q
end
theorem i_d {c : Prop} [Decidable c] {A B : Prop} (h1 : c → A) (h2 : ¬ c → B) : if decide c = true then A else B := by
  by_cases h : c
  · rw [if_pos (decide_eq_true h)]; exact h1 h
  · rw [if_neg (by rw [decide_eq_false h]; decide)]; exact h2 h
theorem i_nd {c : Prop} [Decidable c] {A B : Prop} (h1 : c → B) (h2 : ¬ c → A) : if (!decide c) = true then A else B := by
  by_cases h : c
  · rw [decide_eq_true h]; exact h1 h
  · rw [decide_eq_false h]; exact h2 h
theorem i_dP {c : Prop} [Decidable c] {A B : Prop} (h : c) (h1 : A) : if decide c = true then A else B := i_d (fun _ => h1) (fun n => absurd h n)
theorem i_dN {c : Prop} [Decidable c] {A B : Prop} (h : ¬ c) (h1 : B) : if decide c = true then A else B := i_d (fun n => absurd n h) (fun _ => h1)
theorem i_ndP {c : Prop} [Decidable c] {A B : Prop} (h : c) (h1 : B) : if (!decide c) = true then A else B := i_nd (fun _ => h1) (fun n => absurd h n)
theorem i_nT {A B : Prop} (h : B) : if (!true) = true then A else B := h
theorem i_nF {A B : Prop} (h : A) : if (!false) = true then A else B := h
end L2
set_option Elab.async false
set_option linter.all false
set_option maxRecDepth 100000
set_option maxHeartbeats 4000000
namespace L2
open PySem PySem.Spec PyProof.Rows
def cxComp (X : Cx) (scope : Scope) (cl : List (Str × Addr)) (N' : List Str) (C : Addr) (s₂ : Shared) (H₂ : Hp) (fp : List Addr) : Cx where
  prog := X.prog
  w := X.w
  K := X.K
  mg := X.mg
  base := X.base
  A := X.A
  N := N'
  s₀ := s₂
  H₀ := H₂
  env := compEnvC scope cl C X.env
  outer := X.stack
  stack := X.stack
  ex := fp
  calm := X.calm
  fn := fun _ => false
  pn := []
  xe := fun _ _ => False
def ClOk (cells : List (Str × Addr)) : List (Str × Addr) → Prop
  | [] => True
  | p :: r => cells.lookup p.1 = some p.2 ∧ ClOk cells r
theorem ClOk.look {cells : List (Str × Addr)} : ∀ {cl : List (Str × Addr)} {x : Str} {c : Addr}, ClOk cells cl → cl.lookup x = some c → cells.lookup x = some c
  | [], _, _, _, h => by simp at h
  | (y, d) :: r, x, c, ⟨h1, h2⟩, h => by
    rw [List.lookup_cons] at h
    cases e : x == y with
    | true =>
      rw [e] at h
      have e' : x = y := eq_of_beq e
      cases h
      rw [e']; exact h1
    | false =>
      rw [e] at h
      exact ClOk.look h2 h
def FrOk (X : Cx) (scope : Scope) : List Str → List Nat → Prop
  | [], [] => True
  | y :: r, j :: js => (X.N[j]? = some y ∧ scope.names.lookup y = some .free ∧ (X.env.kindOf y = some .cell ∨ X.env.kindOf y = some .free)) ∧ FrOk X scope r js
  | _, _ => False
theorem FrOk.get {X : Cx} {scope : Scope} : ∀ {fr : List Str} {js : List Nat} {k : Nat} {y : Str}, FrOk X scope fr js → fr[k]? = some y → ∃ j, js[k]? = some j ∧ X.N[j]? = some y ∧ scope.names.lookup y = some .free ∧ (X.env.kindOf y = some .cell ∨ X.env.kindOf y = some .free)
  | [], _, _, _, _, h => by simp at h
  | _ :: _, [], _, _, h, _ => h.elim
  | y :: r, j :: js, 0, z, ⟨h1, _⟩, h => by simp at h; subst h; exact ⟨j, rfl, h1⟩
  | y :: r, j :: js, k + 1, z, ⟨_, h2⟩, h => by
    obtain ⟨j', e, q⟩ := FrOk.get (k := k) h2 (by simpa using h)
    exact ⟨j', by simpa using e, q⟩
theorem FrOk.len {X : Cx} {scope : Scope} : ∀ {fr : List Str} {js : List Nat}, FrOk X scope fr js → fr.length = js.length
  | [], [], _ => rfl
  | [], _ :: _, h => h.elim
  | _ :: _, [], h => h.elim
  | _ :: r, _ :: js, h => by rw [List.length_cons, List.length_cons, FrOk.len h.2]
section
variable {X : Cx} {pins : List (Addr × Obj)} {σ : St} {H : Hp} {s : Shared}
theorem HOk.track {P : Program} {w : World} {H : Hp} {h : Heap} {a : Addr} {o : HO} (x : HOk P w H h) (hn : H a = none) (new : ObjOk P w (upd H a o) h a o) : HOk P w (upd H a o) h := fun b u e => by
  by_cases hb : b = a
  · subst hb; rw [upd_same] at e; cases e; exact new
  · rw [upd_ne hb] at e
    exact (x b u e).stay (fun c v _ q => q) (fun c q => by rw [upd_ne (ne_of_none q hn)]; exact q) fun c xs q => by rw [upd_ne (ne_of_none q hn)]; exact q
theorem Inv.track {a : Addr} {o : HO} (I : Inv X pins σ H s) (f : FpOk X pins H a) (new : ObjOk X.prog X.w (upd H a o) s.heap a o) : Inv X pins σ (upd H a o) s := by
  obtain ⟨f0, f1, f2, f3, f4, f5⟩ := f
  have up : ∀ b, H b = none → b ≠ a → upd H a o b = none := fun b e n => by rw [upd_ne n]; exact e
  have st : ∀ {b u}, H b = some u → upd H a o b = some u := fun {b u} e => by rw [upd_ne (ne_of_none e f0)]; exact e
  have na : ∀ b ob, X.s₀.heap.get? b = some ob → b ∉ X.ex → b ≠ a := fun b ob e hx z => by
    rcases f3 with q | q
    · exact hx (z ▸ q)
    · exact absurd (Nat.lt_of_lt_of_le (Heap.lt_size e) (z ▸ q)) (Nat.lt_irrefl _)
  refine ⟨I.ok, I.os, I.bare, ⟨I.base.keep, I.base.slot, fun b ob e n hx => up b (I.base.free b ob e n hx) (na b ob e hx), I.base.there, fun b xs e => st (I.base.tups b xs e), fun b ob u e => st (I.base.frzs b ob u e), fun b ps e => ?_⟩, I.loc, I.cell, up _ I.free (Ne.symm f1), fun x c e => up c (I.freeC x c e) (f4 x c e), fun p hp => ?_, I.hok.track f0 new, I.len⟩
  · obtain ⟨m, q⟩ := I.base.tbls b ps e
    exact ⟨m, st q⟩
  · obtain ⟨e, n, r⟩ := I.pin p hp
    exact ⟨e, up _ n (f5 p hp), r⟩
end
def PIfs (Y : Cx) (ifs : List Expr) (t : TT) : Prop :=
  ∀ (pins : List (Addr × Obj)) (s : Shared) (σ : St) (H : Hp) (R : Bool → Hp → Prop), Inv Y pins σ H s → t σ H R →
    wpAny (model Y.prog Y.w) Y.A (forIn ifs true fun c r => if r = true then do let ok ← isTrue c Y.env (eval c Y.env); pure (ForInStep.yield ok) else pure (ForInStep.yield r)) (TP Y pins σ R) Y.xe s
def tNoIf : TT := fun _ H R => R true H
def kComp (is : List Nat) (tt : TT) (te : TE) (σ : St) (Q : VK) (J : It) (H1 : Hp) : Prop := ∃ W : Nat → Nat → List V → Hp → Prop, (∃ m, W 0 m [] H1) ∧ ∀ i m ys H, W i m ys H → ys.length ≤ sizeLine ∧
  ((J.stop i H ∧ ∀ p, H p = none → Q (.ref p) (upd H p (.lst ys))) ∨
   (J.go i H ∧ ys.length < sizeLine ∧ ∀ x H', J.yld i H x H' → tt (some x :: is.map fun j => (σ[j]?).getD none) H' fun ok H2 =>
     if ok = true then te (some x :: is.map fun j => (σ[j]?).getD none) H2 fun y H3 => ∃ m', m' < m ∧ W (i + 1) m' (ys ++ [y]) H3 else ∃ m', m' < m ∧ W (i + 1) m' ys H2))
def tComp (is : List Nat) (wi : TI) (tt : TT) (te : TE) : TE := fun σ H Q => wi σ H fun J H1 => kComp is tt te σ Q J H1
section
variable {X : Cx} {elt iter : Expr} {ifs : List Expr} {x : Str} {px pos : Pos} {scope : Scope} {cl : List (Str × Addr)} {fr : List Str} {is : List Nat} {wi : TI} {tt : TT} {te : TE}
def CompOut (X : Cx) (pins : List (Addr × Obj)) (σ : St) (Q : VK) (acc : Value) (C : Addr) (r : Result) (s' : Shared) : Prop := match r with
  | .ok _ => ∃ (D : Addr) (H' : Hp) (m : Str → Option Value), acc = .ref D ∧ Inv X pins σ H' s' ∧ s'.heap.Ns C m ∧ FpOk X pins H' C ∧ Q (.ref D) H'
  | .error _ => False
end
section
variable {K : PySem.W.Frag} {σ : St} {H : Hp} {Q : VK} {is : List Nat} {tt : TT} {te : TE}
def kCompL (K : PySem.W.Frag) (is : List Nat) (tt : TT) (te : TE) (σ : St) (Q : VK) (x : V) (H : Hp) : Prop := ∃ a, x = .ref a ∧ (∃ xs, SqL K H a xs) ∧ kComp is tt te σ Q (Itl K a) H
def NxC (n : Nat) (Pv : Nat → List V → Hp → Prop) (i : Nat) (ys : List V) (H : Hp) : Prop := ∃ m', m' < n - i ∧ m' = n - (i + 1) ∧ i + 1 ≤ n ∧ Pv (i + 1) ys H
def kCompR (is : List Nat) (tt : TT) (te : TE) (σ : St) (Q : VK) (vs : List V) (H : Hp) : Prop := ∃ j : Int, vs = [.int j] ∧ -(2 ^ 62) ≤ j ∧ j < 2 ^ 62 ∧ kComp is tt te σ Q (Itr 0 j.toNat) H
end
section
variable {K : PySem.W.Frag} {σ : St} {H : Hp} {Q : VK}
theorem r_slice {r : V → Option Int → Option Int → Hp → VK → Prop} {te : TE} {tl th : TO} (h : te σ H fun x H1 => tl σ H1 fun l H2 => th σ H2 fun u H3 => r x l u H3 Q) : tSl r te tl th σ H Q := h
theorem r_noPart {R : Option Int → Hp → Prop} (h : R none H) : tNoPart σ H R := h
theorem r_part {t : TE} {R : Option Int → Hp → Prop} (h : t σ H fun x H1 => ∃ i, x = .int i ∧ R (some i) H1) : tPart t σ H R := h
theorem r_exint {i : Int} {R : Int → Prop} (h : R i) : ∃ k, V.int i = .int k ∧ R k := ⟨i, rfl, h⟩
theorem r_slL {a : Addr} {xs : List V} {lo hi : Option Int} (h : SqL K H a xs) (q : ∀ p H', Same H H' → H' p = some (.lst (cutV xs lo hi)) → Q (.ref p) H') : rSlL K (.ref a) lo hi H Q := ⟨a, xs, rfl, h, fun p hp => q p _ (same_new hp _) upd_same⟩
theorem r_cat {l b : Addr} {xs zs : List V} (h1 : H l = some (.lst xs)) (h2 : H b = some (.lst zs)) (hz : xs.length + zs.length ≤ sizeLine) (q : ∀ p H', Same H H' → H' p = some (.lst (xs ++ zs)) → Q (.ref p) H') : rCat (.ref l) (.ref b) H Q :=
  ⟨l, b, xs, zs, rfl, rfl, h1, h2, hz, fun p hp => q p _ (same_new hp _) upd_same⟩
theorem cutV_map {α : Type} (f : α → V) (xs : List α) (lo hi : Option Int) : ∃ ys : List α, cutV (xs.map f) lo hi = ys.map f ∧ ∀ y ∈ ys, y ∈ xs := by
  unfold cutV
  refine ⟨(xs.drop (HT.sIx (xs.map f).length 0 lo)).take (HT.sIx (xs.map f).length (xs.map f).length hi - HT.sIx (xs.map f).length 0 lo), ?_, fun y hy => List.mem_of_mem_drop (List.mem_of_mem_take hy)⟩
  rw [List.map_take, List.map_drop]
end
theorem r_int1d {c : Prop} [Decidable c] {Q : VK} {H : Hp} (h1 : c → Q (.int 1) H) (h2 : ¬ c → Q (.int 0) H) : rInt1 [.bl (decide c)] H Q := by
  by_cases h : c
  · rw [decide_eq_true h]; exact r_int1b (h1 h)
  · rw [decide_eq_false h]; exact r_int1b (h2 h)
end L2
set_option Elab.async false
set_option linter.all false
set_option maxRecDepth 100000
set_option maxHeartbeats 4000000
namespace L2
open PySem PySem.Spec PyProof.Rows
section
variable {X : Cx}
def rSorted (K : PySem.W.Frag) : List V → Hp → VK → Prop := fun xs H Q => ∃ (p : Addr) (ns : List Int), xs = [.ref p] ∧ SqL K H p (ns.map V.int) ∧ ns.length < 64 ∧
  ∀ (ms : List Int) (q : Addr) (H' : Hp), ms.Perm ns → ms.Pairwise (· ≤ ·) → Same H H' → H' q = some (.lst (ms.map V.int)) → Q (.ref q) H'
def rInsert : V → List V → Hp → VK → Prop := fun x vs H Q => ∃ l xs i y, x = .ref l ∧ vs = [.int i, y] ∧ H l = some (.lst xs) ∧ 0 ≤ i ∧ i.toNat ≤ xs.length ∧ xs.length < sizeLine ∧ Q .non (upd H l (.lst (xs.take i.toNat ++ y :: xs.drop i.toNat)))
def rNeL (K : PySem.W.Frag) : R2 := fun x y H Q => ∃ p q xs ys, x = .ref p ∧ y = .ref q ∧ SqL K H p xs ∧ SqL K H q ys ∧ xs.length = ys.length ∧ xs.all flatV = true ∧ ys.all flatV = true ∧ Q (.bl (!(List.range xs.length).all fun j => eqV (xs.getD j .non) (ys.getD j .non))) H
end
end L2
set_option Elab.async false
set_option linter.all false
set_option maxRecDepth 100000
set_option maxHeartbeats 400000
namespace L2
open PySem PySem.Spec PyProof.Rows
abbrev VEB : List Value := [.type "ValueError", .type "Exception", .type "BaseException", .type "object"]
structure Exc (K : PySem.W.Frag) (C : Addr) : Prop where
  ex : PySem.W.excIn K C VEB "ValueError.__new__" = true
  h1 : PySem.W.findIn K (.ref C) "__getattribute__" = some (some (.builtin "BaseException.__getattribute__"))
  h2 : PySem.W.findIn K (.ref C) "__getattr__" = some none
  hb : PySem.W.mroIn K C (.type "BaseException") = some true
  hd : PySem.W.hasDictIn K C = true
  ha : PySem.W.findIn K (.ref C) "__class__" = some (some (.builtin "object.__class__"))
  hn : PySem.W.specialIn K (.builtin "object.__class__") "__get__" = some (some (.builtin "getset_descriptor.__get__"))
  ht : PySem.W.takesIn K (.builtin "object.__class__") = some true
  hm : PySem.W.mroIn K C (.type "object") = some true
def ExAt (x C : Addr) (h : Heap) : Prop := ∃ o, h.get? x = some o ∧ o.cls = .ref C ∧ ∃ vs, o.data = .fields vs
theorem ExAt.keep {x C : Addr} {h h' : Heap} (e : ExAt x C h) (k : ∀ o, h.get? x = some o → h'.get? x = some o) : ExAt x C h' := let ⟨o, a, b⟩ := e; ⟨o, k o a, b⟩
section
open PySem.W PySem.Calls Builtin Builtin.ObjectAttr Builtin.Getset_descriptor
variable {K : Frag} {x C : Addr} {M : Model} {h : Heap}
theorem ExAt.ty (e : ExAt x C h) : Looks M h (typeOf (.ref x)) (.ref C) := by
  obtain ⟨o, h1, h2, _⟩ := e
  rw [← h2]
  exact (Looks.ld h1).andThen .now
theorem ex_find {a g : Value} {name : Str} (X : K.In h) (h1 : findIn K (.ref C) name = some (some a)) (h2 : specialIn K a "__get__" = some (some g)) (h3 : takesIn K a = some true) : Looks M h (Builtin.ObjectAttr.find (.ref x) (.ref C) name) (.bind g a) :=
  (looks_findIn X h1).andThen ((looks_specialIn X h2).andThen ((show Looks M h (Builtin.ObjectAttr.dataDescriptor? (some a) (some g)) (some (g, a)) from (looks_takesIn X h3).andThen .now).andThen (Looks.tag .now)))
variable {prog : Program} {w : World} {A : Around} {E : Value → Shared → Prop} {s : Shared}
theorem ex_get {tp : Value} {R : Result → Shared → Prop} (X : K.In s.heap) (e : ExAt x C s.heap) (c : Exc K C) (q : R (.ok (.ret (.ref C))) s) :
    codeAny (model prog w) A (.call (.builtin "getset_descriptor.__get__") ⟨[.builtin "object.__class__", .ref x, tp], []⟩) R s := by
  obtain ⟨hp, gn, dw, tk, os⟩ := s
  have T0 := e.ty (M := model prog w)
  have T1 := looks_mroIn (M := model prog w) X c.hm
  refine codeAny_call_builtin KF.slot_gs.plain KF.entry_gs
    (KF.slot_gs.check _ _ _ _ _ _ _ _ KF.type_class (KF.args_gs _ _ _) ?_)
  unfold Builtin.«getset_descriptor.__get__»
  unfold descrGet
  rw [dga_obj]
  refine wpAny_bind (wpAny_pure ?_)
  unfold descrGetter descrCheckInstance
  unfold descrNameAndClass isInstance
  simp only [KF.owner_class]
  repeat lk
  refine ⟨Code.quiet_builtin _ (by decide +kernel),
    codeAny_builtin KF.entry_class ?_⟩
  unfold Builtin.«object.__class__»
  unfold shownTypeOf
  repeat lk
  exact q
theorem ex_entry {tk : Tok} {P : Value → Shared → Prop} (X : K.In s.heap) (e : ExAt x C s.heap) (c : Exc K C) (q : P (.ref C) s) :
    wpAny (model prog w) A (Builtin.«object.__getattribute__» ⟨[.ref x, .str "__class__" tk], []⟩) (fun fin s' => match fin with | .done (.ret v) => P v s' | _ => False) E s := by
  obtain ⟨hp, gn, dw, t', os⟩ := s
  have T0 := e.ty (M := model prog w)
  have T2 := ex_find (M := model prog w) (x := x) X c.ha c.hn c.ht
  unfold Builtin.«object.__getattribute__»
  refine wpAny_bind (wpAny_pure (wpAny_bind (wpAny_pure (wpAny_bind (T0.at (wpAny_bind (T2.at ?_)))))))
  show wpAny _ _ (holding [Value.builtin "object.__class__"] (call (.builtin "getset_descriptor.__get__") [.builtin "object.__class__", .ref x, .ref C]) >>= ret) _ _ _
  refine wpAny_bind (wpAny_holding (wpAny_call (ex_get X e c ?_)))
  exact wpAny_pure q
theorem ex_call {tk : Tok} {R : Result → Shared → Prop} (X : K.In s.heap) (e : ExAt x C s.heap) (c : Exc K C) (q : R (.ok (.ret (.ref C))) s) :
    codeAny (model prog w) A (.call (.builtin "BaseException.__getattribute__") ⟨[.ref x, .str "__class__" tk], []⟩) R s := by
  refine codeAny_call_builtin PySem.F.attrBase_ValueError.ga.plain PySem.F.entry_bexc_ga ?_
  have k0 : builtinKind "BaseException.__getattribute__" = some .slot := by decide +kernel
  have k1 : splitId "BaseException.__getattribute__" = some ("BaseException", "__getattribute__") := by decide +kernel
  have k2 := PySem.F.args_bexc_ga (.ref x) (.str "__class__" tk)
  have T0 := e.ty (M := model prog w)
  have T1 := looks_mroIn (M := model prog w) X c.hb
  have T4 : Looks (model prog w) s.heap (isInstance (.ref x) (.type "BaseException")) true := T0.andThen T1
  simp only [checkBuiltinCall, k0, k1]
  refine wpAny_bind (T4.here ?_)
  rw [if_neg (by decide)]
  unfold argsOk at k2
  generalize Manifest.signature? "BaseException.__getattribute__" = sg at k2 ⊢
  have go := wpAny_mono (E' := fun e s' => R (.error e) s') (ex_entry (prog := prog) (w := w) (A := A.in1) (tk := tk) (E := fun _ _ => False) (P := fun v s' => R (.ok (.ret v)) s') X e c q) (Q' := fun fin s' => match fin with | .done f => R (.ok f) s' | .again c' => c'.quiet = true ∧ codeAny (model prog w) A c' R s') (fun fin s' z => by
    rcases fin with (_ | _ | _ | _) | _ <;> first | exact z | exact z.elim) fun _ _ z => z.elim
  cases sg with
  | none => exact wpAny_pure go
  | some sig =>
    dsimp only at k2 ⊢
    rw [k2]
    exact wpAny_pure go
theorem ex_class {Q : Option Value → Shared → Prop} (X : K.In s.heap) (e : ExAt x C s.heap) (c : Exc K C) (q : Q (some (.ref C)) { s with toks := s.toks + 1 }) : wpAny (model prog w) A (getAttr? (.ref x) "__class__") Q E s := by
  obtain ⟨hp, gn, dw, tk, os⟩ := s
  have T0 := e.ty (M := model prog w)
  have T1 := looks_findIn (M := model prog w) X c.h1
  have T3 := looks_findIn (M := model prog w) X c.h2
  have B0 := PySem.F.attrBase_ValueError.ga.bind (.ref x)
  unfold getAttr? getAttrBy?
  unfold getAttrBy
  refine wpAny_bind (wpAny_mkText (wpAny_bind (wpAny_attempt
    (wpAny_holding (wpAny_bind (T0.at (wpAny_bind (T1.at ?_))))))))
  show wpAny _ _ (getAttrByItsOwn (.ref x) (.str "__class__" tk) (.ref C) (.builtin "BaseException.__getattribute__") false false) _ _ _
  unfold getAttrByItsOwn
  refine wpAny_bind ((show Looks (model prog w) hp (hookBefore (.ref C)) none from T3).at ?_)
  unfold callGetattribute
  show wpAny _ _ (do match ← (holding [] (boundAndCalled (.builtin "BaseException.__getattribute__") (.ref x) (.str "__class__" tk))).attempt with | .ok v => handedOut v | .error e' => getattributeRaised _ _ _ e' _ _ _) _ _ _
  unfold boundAndCalled
  rw [B0]
  refine wpAny_bind (wpAny_attempt (wpAny_holding (wpAny_bind (wpAny_pure (wpAny_call (ex_call X e c ?_))))))
  exact wpAny_mono (handed_on rfl q) (fun v s'' hv => wpAny_pure hv) fun _ _ z => z
theorem ex_kit (c : Exc K C) : KitX K (.ref x) (.ref C) (ExAt x C) where
  ty := fun _ _ _ e => e.ty
  it := fun _ _ X _ => by
    obtain ⟨cd, hc, _⟩ := any_some c.hd
    unfold clsIn at hc
    split at hc
    · rename_i ho
      intro A' Q' E' s' k q
      unfold isType loadHead
      refine wpAny_bind (wpAny_loadPart (k _ _ (X _ _ ho)) ?_)
      exact wpAny_pure q
    · cases hc
  ne := fun h tp dd its n sl X htp => by
    obtain ⟨cd, hc, _⟩ := any_some c.hd
    refine Bool.eq_false_iff.mpr fun q => ?_
    have z : C = tp := Value.ref.inj (beq_iff_eq.mp q)
    subst z
    unfold clsIn at hc
    split at hc
    · rename_i ho
      cases (X _ _ ho).symm.trans htp
    · cases hc
  ca := fun X e k => ex_class X e c k
end
end L2
set_option Elab.async false
set_option linter.all false
set_option maxRecDepth 100000
set_option maxHeartbeats 400000
namespace L2
open PySem PySem.Spec PyProof.Rows
def CXE (P : Program) (w : World) : CXT := fun outer H s E e s' => ∃ (x C : Addr) (a0 : Value) (H' : Hp) (B : Heap), e = .ref x ∧ s'.os = s.os ∧ AllBare s'.gens ∧ Heap.FlyingW B outer x (.ref C) a0 s'.heap ∧
  (∀ h', B.StaysIn h' → s'.heap.UpToSlots h' → Un (frs outer) [] H H' s.heap h' ∧ HOk P w H' h') ∧ s.heap.get? x = none ∧ H' x = none ∧ E (.ref C) none H'
theorem ObjOk.is {P : Program} {w : World} {H : Hp} {h : Heap} {a : Addr} {o : HO} (x : ObjOk P w H h a o) : ∃ ob, h.get? a = some ob := by
  cases o with
  | lst xs => obtain ⟨_, _, _, _, e⟩ := x; exact ⟨_, e⟩
  | tup xs => obtain ⟨_, _, _, ob, e, _⟩ := x; exact ⟨_, e⟩
  | dK kvs => obtain ⟨_, _, _, _, ob, _, _, e, _⟩ := x; exact ⟨_, e⟩
  | dT kvs => obtain ⟨_, _, _, _, ob, _, _, e, _⟩ := x; exact ⟨_, e⟩
  | set S n => first | (obtain ⟨ob, e, _⟩ := x; exact ⟨_, e⟩) | (obtain ⟨ob, es, e, _⟩ := x; exact ⟨_, e⟩) | (obtain ⟨ob, es, ep, e, _⟩ := x; exact ⟨_, e⟩) | (obtain ⟨ob, es, ep, z, e, _⟩ := x; exact ⟨_, e⟩)
  | ins C dx fs => obtain ⟨_, _, _, e, _⟩ := x; exact ⟨_, e⟩
  | own y => exact x
  | xd fs => obtain ⟨_, ⟨ob, _, _, e, _⟩, _⟩ := x; exact ⟨_, e⟩
  | met f y => exact ⟨_, x⟩
  | rng lo hi => obtain ⟨_, _, _, e⟩ := x; exact ⟨_, e⟩
  | frz o u => exact ⟨_, x.1⟩
  | tbl ps => exact ⟨_, x⟩
  | ext φ => exact x.2.1
section
variable {P : Program} {w : World} {K : PySem.W.Frag} {mg : Str → Option Value} {base : Heap} {N : List Str} {qual : Str} {scope : Scope} {f : Addr} {cd : Value} {A : Around} {outer : List Env} {s : Shared} {H : Hp} {E : XK}
theorem leaves_made {pins : List (Addr × Obj)} {σ : St} {H1 : Hp} {s1 : Shared} {h' : Heap} {x C : Addr} {args : List Value}
    (I : Inv (cxOf (CXE P w) P w K mg base N qual scope f cd A outer s H E) pins σ H1 s1) (hm : Heap.MadeExcOf s1.heap h' x (.ref C) args) (q : E (.ref C) none H1) :
    (cxOf (CXE P w) P w K mg base N qual scope f cd A outer s H E).xe (.ref x) { s1 with heap := h' } := by
  have hst : ∀ b ∈ frs (envOfC qual scope s.heap.objs.size f cd :: outer), H1 b = none := I.stkFree
  have hin : ∀ env ∈ (envOfC qual scope s.heap.objs.size f cd :: outer), ∀ b, env.frame = some b → b ∈ frs (envOfC qual scope s.heap.objs.size f cd :: outer) := fun env he b hb => List.mem_filterMap.mpr ⟨env, he, hb⟩
  have FF : s1.heap.FunFrames base (envOfC qual scope s.heap.objs.size f cd :: outer) := I.stack
  have old : ∀ b o, s.heap.get? b = some o → b ≠ s.heap.objs.size := fun b o e => Nat.ne_of_lt (Heap.lt_size e)
  have sub : ∀ b, b ∈ frs (envOfC qual scope s.heap.objs.size f cd :: outer) → b = s.heap.objs.size ∨ b ∈ frs outer := fun b hb => List.mem_cons.mp (I.stkSub b hb)
  refine wpAny_leaves_madeW (base := PySem.W.hideAll s1.heap (frs (envOfC qual scope s.heap.objs.size f cd :: outer))) I.ok.frames rfl (fun b o e => PySem.W.of_hideAll _ e) (PySem.W.funFrames_hide FF hin) hm fun h2 t f1 f2 f3 f4 => ?_
  refine ⟨x, C, .ref t, H1, _, rfl, I.os, I.bare, f1, fun h3 st sm => ?_, ?_, ?_, q⟩
  · have here : ∀ b o, s1.heap.get? b = some o → b ∉ frs (envOfC qual scope s.heap.objs.size f cd :: outer) → h3.get? b = some o := fun b o e n => st b o (PySem.W.hideAll_get _ e n)
    have fram : ∀ b o, s1.heap.get? b = some o → b ∈ frs (envOfC qual scope s.heap.objs.size f cd :: outer) → ∃ sl, h3.get? b = some { o with slots := sl } := fun b o e m => by
      obtain ⟨_, o', e', nf⟩ := FF.mem m
      have z : o' = o := Option.some.inj (e'.symm.trans e)
      subst z
      obtain ⟨sl, e2⟩ := f4 b o' (hm.keeps b o' e) nf
      obtain ⟨sl', e3⟩ := sm b _ e2 nf
      exact ⟨sl', e3⟩
    refine ⟨⟨fun b o e n hb hx => ?_, fun b o e n hb hx => ?_, fun b o e n hx => I.base.free b o e n hx, fun b o e hx => ?_, I.base.tups, I.base.frzs, I.base.tbls⟩, fun a u e => ?_⟩
    · exact here b o (I.base.keep b o e n hb hx) fun z => (sub b z).elim (old b o e) hb
    · obtain ⟨sl, e1⟩ := I.base.slot b o e n hb hx
      have mem : b ∈ frs (envOfC qual scope s.heap.objs.size f cd :: outer) := by
        show b ∈ List.filterMap _ _
        rw [List.filterMap_cons]
        exact List.mem_cons_of_mem _ hb
      obtain ⟨sl', e2⟩ := fram b _ e1 mem
      exact ⟨sl', e2⟩
    · obtain ⟨o', e1⟩ := I.base.there b o e hx
      by_cases mem : b ∈ frs (envOfC qual scope s.heap.objs.size f cd :: outer)
      · obtain ⟨sl, e2⟩ := fram b o' e1 mem
        exact ⟨_, e2⟩
      · exact ⟨o', here b o' e1 mem⟩
    · refine (I.hok a u e).stay (fun b ob hb eb => here b ob eb fun z => ?_) (fun _ z => z) (fun _ _ z => z)
      have := hst b z
      rcases hb with rfl | hb
      · rw [e] at this; cases this
      · rw [hb] at this; cases this
  · cases z : s.heap.get? x with
    | none => rfl
    | some o =>
      obtain ⟨o', e1⟩ := I.base.there x o z (fun h => nomatch h)
      have := hm.new
      rw [e1] at this; cases this
  · cases z : H1 x with
    | none => rfl
    | some o =>
      obtain ⟨ob, e1⟩ := (I.hok x o z).is
      have := hm.new
      rw [e1] at this; cases this
end
theorem exc_obj {K : PySem.W.Frag} {h : Heap} {C : Addr} (X : K.In h) (c : Exc K C) : ∃ tl N nm q bs hdct sn sub ab col dd k0 k1 k2 k3 k5 mN,
    h.get? C = some (excClassObj nm q C N bs tl hdct sn sub ab col dd k0 k1 k2 k3 k5 "ValueError.__new__") ∧ h.Ns N mN ∧ mN "__init__" = none ∧ OwnTail h VEB tl := by
  have q := c.ex
  unfold PySem.W.excIn at q
  split at q
  · rename_i dd cd sl ho
    split at q
    · rename_i C' bm k0 k1 k2 k3 n k5 hm hs
      simp only [Bool.and_eq_true, beq_iff_eq, Bool.not_eq_true'] at q
      obtain ⟨⟨⟨⟨⟨z1, z2⟩, hdel⟩, ht⟩, hok⟩, hni⟩ := q
      subst z1 z2
      obtain ⟨nm, bs, mro, ns, qn, hdc, sn, sub, ab, col, del⟩ := cd
      dsimp only at hm hdel hok hni
      subst hm hdel
      have hsl : sl = #[k0, k1, k2, k3, some (.builtin "ValueError.__new__"), k5] := by
        cases sl with
        | mk l => simp only at hs; rw [hs]
      subst hsl
      refine ⟨bm, ns, nm, qn, bs, hdc, sn, sub, ab, col, dd, k0, k1, k2, k3, k5, h.nsMap ns, X _ _ ho, ?_, ?_, PySem.W.tail_of_in X ht⟩
      · exact .of_isNs (PySem.W.isNs_of_in X hok)
      · exact PySem.W.nsMap_none_of_in X hok hni
    · cases q
  · cases q
def Takes (X : Cx) (E : XK) : Prop := ∀ (pins : List (Addr × Obj)) (σ : St) (H : Hp) (s : Shared) (h' : Heap) (x C : Addr) (args : List Value), Inv X pins σ H s → Heap.MadeExcOf s.heap h' x (.ref C) args → E (.ref C) none H → X.xe (.ref x) { s with heap := h' }
def tRaise (C : Addr) (E : XK) (t : TA) : TS := fun _ σ H => t σ H fun vs H1 => vs.length ≤ sizeLine ∧ E (.ref C) none H1
theorem ps_raise {X : Cx} {x : Str} {C : Addr} {E : XK} {np cpos pos : Pos} {e : Expr} {es : List Expr} {t : TA} (tk : Takes X E) (hc : X.calm = true) (c : Exc X.K C) (hg : Gl X x) (hm : X.mg x = some (.ref C)) (ha : PA X (e :: es) t)
    (hdb : (x == ("__debug__" : Str)) = false := by decide) (he : starEach (e :: es) X.env = (false, eval e X.env) :: starEach es X.env := by rfl) (hpl : (backTo cpos (starEach es X.env)).any (·.1) = false := by rfl) :
    PS X (.Raise (some (.Call (.Name x np) (e :: es) [] cpos)) none pos) (tRaise C E t) := by
  intro pins s σ H D I h
  obtain ⟨tl, N, nm, q, bs, hdct, sn, sub, ab, col, dd, k0, k1, k2, k3, k5, mN, hC, hN, hni, T⟩ := exc_obj I.ok.mod.kin c
  refine wpAny_Raise_call_subT (C := C) (bm := tl) (mN := mN) (N := N) (nm := nm) (q := q) (bs := bs) (hdct := hdct) (sn := sn) (sub := sub) (ab := ab) (col := col) (dd := dd) (k0 := k0) (k1 := k1) (k2 := k2) (k3 := k3) (k5 := k5) PySem.F.excBase_ValueError (T.hasType PySem.F.excBase_ValueError.hasBase) (I.ok.hd hc) (by rw [he]; show (false || (backTo cpos (starEach es X.env)).any (·.1)) = false; rw [hpl]; rfl) hni (ld_glob I hg hm ⟨rfl, ?_⟩ hdb)
  have z := ha cpos pins s σ H _ I h
  rw [he] at z ⊢
  refine Calls.evalArgs_plain (thn z fun us s1 ⟨vs, H1, I1, r, hl, qe⟩ => ?_)
  have hv : us.length ≤ sizeLine := by rw [← r.length]; exact hl
  exact ⟨rfl, hv, I1.bk _ _ hC, hN.keeps I1.bk, T.keeps I1.bk, fun h' y hm' => tk pins σ H1 s1 h' y C us I1 hm' qe⟩
def HasX (P : Program) (w : World) (K : PySem.W.Frag) (mg : Str → Option Value) (base : Heap) (x : Str) (k : Nat) (ps : List Str) (sp : Sp) : Prop :=
  ∃ (f : Addr) (fd : FuncData), FnOk P w K mg base (CXE P w) k f fd ps sp ∧ mg x = some (.ref f) ∧ PySem.W.keepIn K (.ref f) = true ∧ Binds K fd ps []
def XP (X : Cx) (pins : List (Addr × Obj)) (σ : St) (E : XK) (e : Value) (s' : Shared) : Prop := ∃ H1 s1, Inv X pins σ H1 s1 ∧ CXE X.prog X.w X.stack H1 s1 E e s'
theorem pe_callX {X : Cx} {x : Str} {k n : Nat} {ps : List Str} {sp : Sp} {p pos : Pos} {e : Expr} {es : List Expr} {t : TA} {E : XK} (F : HasX X.prog X.w X.K X.mg X.base x k ps sp) (hxe : ∀ e s, ¬ X.xe e s) (hr : Room n X.A) (hg : Gl X x) (ha : PA X (e :: es) t)
    (pins : List (Addr × Obj)) (s : Shared) (σ : St) (H : Hp) (Q : VK) (I : Inv X pins σ H s) (h : tCall sp [] E t σ H Q) (hk : k ≤ n := by decide)
    (hdb : (x == ("__debug__" : Str)) = false := by decide) (he : starEach (e :: es) X.env = (false, eval e X.env) :: starEach es X.env := by rfl) (hpl : (backTo pos (starEach es X.env)).any (·.1) = false := by rfl) :
    wpAny (model X.prog X.w) X.A (eval (.Call (.Name x p) (e :: es) [] pos) X.env) (EP X pins σ Q) (XP X pins σ E) s := by
  obtain ⟨f, fd, G, hm, kp, hb⟩ := F
  refine wpAny_Call_Name_kw (ld_glob I hg hm ?_ hdb)
  refine PySem.W.callWith_K (h₀ := X.base) I.ok.mod.kin kp (wpAny_mono (ha pos pins s σ H _ I h) (fun us s1 ⟨vs, H1, I1, r, q⟩ => ⟨I1.kIn, ?_⟩) fun e s z => (hxe e s z).elim) he hpl
  have r2 : Vals (vs ++ []) (us ++ []) := r.append .nil
  have hl : (us ++ []).length = ps.length := by rw [← r2.length]; exact G.len _ _ _ _ q
  refine wpAny_call (codeAny_mono (G.run X.A X.stack s1 H1 ⟨us, []⟩ (us ++ []) (vs ++ []) Q E (hr.mono hk) I1.env0 (hb s1 us I1.kIn hl) r2 q) fun r s' hq => ?_)
  cases r with
  | error e => exact ⟨H1, s1, I1, hq⟩
  | ok fl =>
    cases fl with
    | ret u => exact I1.after hq
    | next => exact hq.elim
    | brk => exact hq.elim
    | cont => exact hq.elim
def Cx.inExc (X : Cx) (x : Addr) : Cx := { X with A := X.A.mark (some (.ref x)), calm := false, xe := fun _ _ => False }
section
variable {X : Cx} {pins : List (Addr × Obj)} {σ : St} {H : Hp} {s : Shared}
theorem Cx.Ok.inExc (ok : X.Ok) (x : Addr) : (X.inExc x).Ok :=
  ⟨ok.mod, ok.kind, ok.glob, ok.blt, ok.above, ok.inj, ok.has, ok.cab, (fun z => nomatch z), ok.frames, ok.stk, ok.exf, ok.bs, ok.bsz, ok.noex, ok.exfs, ok.funs, ok.frf⟩
theorem Inv.inExc (I : Inv X pins σ H s) (x : Addr) : Inv (X.inExc x) pins σ H s := ⟨I.ok.inExc x, I.os, I.bare, I.base, I.loc, I.cell, I.free, I.freeC, I.pin, I.hok, I.len⟩
theorem Inv.outExc {x : Addr} (ok : X.Ok) (I : Inv (X.inExc x) pins σ H s) : Inv X pins σ H s := ⟨ok, I.os, I.bare, I.base, I.loc, I.cell, I.free, I.freeC, I.pin, I.hok, I.len⟩
theorem Inv.track2 {a : Addr} {o : HO} (I : Inv X pins σ H s) (f0 : H a = none) (f1 : a ≠ X.env.locals) (f3 : ∀ ob, X.s₀.heap.get? a ≠ some ob) (f4 : ∀ x c, X.env.cells.lookup x = some c → c ≠ a) (f5 : ∀ p ∈ X.pn ++ pins, p.1 ≠ a)
    (new : ObjOk X.prog X.w (upd H a o) s.heap a o) : Inv X pins σ (upd H a o) s := by
  have up : ∀ b, H b = none → b ≠ a → upd H a o b = none := fun b e n => by rw [upd_ne n]; exact e
  have st : ∀ {b u}, H b = some u → upd H a o b = some u := fun {b u} e => by rw [upd_ne (ne_of_none e f0)]; exact e
  refine ⟨I.ok, I.os, I.bare, ⟨I.base.keep, I.base.slot, fun b ob e n hx => up b (I.base.free b ob e n hx) (fun z => f3 ob (z ▸ e)), I.base.there, fun b xs e => st (I.base.tups b xs e), fun b ob u e => st (I.base.frzs b ob u e), fun b ps e => ?_⟩, I.loc, I.cell, up _ I.free (Ne.symm f1), fun x c e => up c (I.freeC x c e) (f4 x c e), fun p hp => ?_, I.hok.track f0 new, I.len⟩
  · obtain ⟨m, q⟩ := I.base.tbls b ps e
    exact ⟨m, st q⟩
  · obtain ⟨e, n, r⟩ := I.pin p hp
    exact ⟨e, up _ n (f5 p hp), r⟩
theorem Inv.renamed {h' : Heap} {m' : Str → Option Value} {t' : Nat} (I : Inv X pins σ H s) (hs : Heap.SameBut X.env.locals s.heap h') (hn : h'.Ns X.env.locals m') : Inv X pins (List.replicate σ.length none) H { s with heap := h', toks := t' } := by
  have ne0 : ∀ b o, X.s₀.heap.get? b = some o → b ≠ X.env.locals := fun b o e => Nat.ne_of_lt (Nat.lt_of_lt_of_le (Heap.lt_size e) I.ok.above)
  have at' : ∀ b o, b ≠ X.env.locals → s.heap.get? b = some o → h'.get? b = some o := fun b o n e => (hs.2 b n).trans e
  refine ⟨I.ok, I.os, I.bare, ⟨fun b o e n hb hx => at' b o (ne0 b o e) (I.base.keep b o e n hb hx), fun b o e n hb hx => ?_, I.base.free, fun b o e hx => ?_, I.base.tups, I.base.frzs, I.base.tbls⟩, ⟨m', hn, fun i x v _ e _ => ?_⟩, fun x c e => ?_, I.free, I.freeC, fun p hp => ?_, fun a u e => ?_, ?_⟩
  · obtain ⟨sl, e1⟩ := I.base.slot b o e n hb hx
    exact ⟨sl, at' b _ (ne0 b o e) e1⟩
  · obtain ⟨o', e1⟩ := I.base.there b o e hx
    exact ⟨o', at' b o' (ne0 b o e) e1⟩
  · rw [List.getElem?_replicate] at e
    split at e <;> simp at e
  · obtain ⟨v, o, ho, hd⟩ := I.cell x c e
    exact ⟨v, o, at' c o (I.cne x c e) ho, hd⟩
  · obtain ⟨e, n, ne, r⟩ := I.pin p hp
    exact ⟨at' _ _ ne e, n, ne, r⟩
  · refine (I.hok a u e).stay (fun b ob hb eb => at' b ob (fun z => ?_) eb) (fun _ z => z) (fun _ _ z => z)
    have := I.free
    rw [← z] at this
    rcases hb with rfl | hb
    · rw [e] at this; cases this
    · rw [hb] at this; cases this
  · rw [List.length_replicate]; exact I.len
end
def tTryX (K : PySem.W.Frag) (sp : Sp) (C' : Addr) (i : Nat) (t : TA) (ts : TS) : TS := fun D σ H => t σ H fun vs H1 => sp (vs ++ []) H1 (fun _ H2 => D.nx σ H2) (fun cls _ H2 => ∃ C, cls = .ref C ∧ Exc K C ∧ PySem.W.exmOne K (.ref C) (.ref C') = some true ∧
  ∀ x, H2 x = none → ts { nx := fun _ _ => False, rt := D.rt } (σ.set i (some (.ref x))) (upd H2 x (.ext (ExAt x C))))
theorem ps_tryX {X : Cx} {x cx nx : Str} {k n i : Nat} {ps : List Str} {sp : Sp} {p np cpos epos hpos pos : Pos} {e : Expr} {es : List Expr} {t : TA} {ts : TS} {C' : Addr} {b₀ : Stmt} {suite : List Stmt}
    (F : HasX X.prog X.w X.K X.mg X.base x k ps sp) (hxe : ∀ e s, ¬ X.xe e s) (hst : X.stack = X.env :: X.outer) (hex : X.ex = []) (hfr : X.env.frame = some X.env.locals) (hr : Room n X.A) (hg : Gl X x) (ha : PA X (e :: es) t)
    (hgc : Gl X cx) (hmc : X.mg cx = some (.ref C')) (hN : X.N.Nodup) (hi : X.N[i]? = some nx) (hnx : X.env.scope.names.lookup nx = some .local) (hs : ∀ y, PSs (X.inExc y) (b₀ :: suite) ts)
    (hk : k ≤ n := by decide) (hdb : (x == ("__debug__" : Str)) = false := by decide) (hdc : (cx == ("__debug__" : Str)) = false := by decide) (he : starEach (e :: es) X.env = (false, eval e X.env) :: starEach es X.env := by rfl) (hpl : (backTo cpos (starEach es X.env)).any (·.1) = false := by rfl)
    (hsw : swapsWith (.Call (.Name x p) (e :: es) [] cpos) none epos.line X.env = pure false := by rfl) :
    PS X (.Try [.Expr (.Call (.Name x p) (e :: es) [] cpos) epos] [.ExceptHandler (some (.Name cx np)) (some nx) (b₀ :: suite) hpos] [] [] pos) (tTryX X.K sp C' i t ts) := by
  intro pins s σ H D I h
  have hkn : X.env.kindOf nx = some .local := hnx
  refine wpAny_Try_except (wpAny_execs_cons (wpAny_Expr_any (wpAny_mono (pe_callX F hxe hr hg ha pins s σ H _ I h hk hdb he hpl) (fun v s1 ⟨y, H1, I1, r1, q1⟩ => wpAny_execs_nil (wpAny_execs_nil ⟨σ, H1, I1, q1⟩)) fun er s' ⟨H1, s1, I1, fl⟩ => ?_) I.quiet hsw))
  obtain ⟨y, C, a0, H2, B, rfl, hos, hbare, fly, clo, hy0, hy2, C0, z0, ex, exm, q⟩ := fl
  cases z0
  rw [hst] at fly
  refine wpAny_looks_onW (I.ok.frames.trans (congrArg some hst)) hfr fly fun h1 held sm1 => ?_
  refine wpAny_landsW held fun h2 fly2 sm2 => ?_
  have cl2 := clo h2 fly2.1 (sm1.trans sm2)
  have I2 : Inv X pins σ H2 { s' with heap := h2 } := I1.call' (s' := { s' with heap := h2 }) hos cl2.1 cl2.2 hbare (fun b z => nomatch z)
  have isx : ∀ {h : Heap}, Heap.FlyingW B (X.env :: X.outer) y (.ref C) a0 h → ExAt y C h := fun {h} fl => by
    obtain ⟨_, _, _, oe, vs, _, _, _, h1, ⟨h2, _⟩, h3, _⟩ := fl
    exact ⟨oe, h1, h2, vs, h3⟩
  have ney : ∀ {b : Addr} {o : Obj}, s1.heap.get? b = some o → b ≠ y := fun {b o} e z => by rw [z, hy0] at e; cases e
  refine wpAny_handleBy_cons (codeAny_handlers_test (ld_glob (I2.inExc y) hgc hmc ?_ hdc)) (by intro q; cases q)
  refine (PySem.W.exm_one (M := model X.prog X.w) I2.kIn (isx fly2).ty exm).here ?_
  refine codeAny_handlers_suite_as (lands_againW fly2 fun h3 fly3 sm3 => ?_)
  have cl3 := clo h3 fly3.1 ((sm1.trans sm2).trans sm3)
  have I3 : Inv X pins σ H2 { s' with heap := h3 } := I1.call' (s' := { s' with heap := h3 }) hos cl3.1 cl3.2 hbare (fun b z => nomatch z)
  have I4 : Inv X pins σ (upd H2 y (.ext (ExAt y C))) { s' with heap := h3 } := by
    refine I3.track2 hy2 (fun z => ?_) (fun ob e => ?_) (fun v c e z => ?_) (fun p hp z => ?_) ⟨isx fly3, (isx fly3).imp fun _ z => z.1, fun _ _ z k => z.keep k⟩
    · obtain ⟨m, ⟨o, _, _, ho, _⟩, _⟩ := I1.loc
      exact ney ho z.symm
    · obtain ⟨o', e1⟩ := I1.base.there y ob e (by rw [hex]; exact fun z => nomatch z)
      exact ney e1 rfl
    · obtain ⟨_, o, ho, _⟩ := I1.cell v c e
      exact ney ho z
    · exact ney (I1.pin p hp).1 z
  refine store_ok2 I4 hN hi (.inl hnx) (v := .ref y) rfl (fun s5 I5 _ => ?_) (.inr hnx)
  refine wpAny_mono (hs y pins s5 _ _ _ (I5.inExc y) (q y hy2)) (fun f s6 sp6 => ?_) fun _ _ z => z.elim
  have hp : (X.env.scope.kind == .class || (X.env.scope.kind == .module && X.env.locals != X.env.globals)) = false := by rw [I.ok.kind]; rfl
  cases f with
  | ret u =>
    obtain ⟨v, σ6, H6, I6, rv, qv⟩ := sp6
    obtain ⟨m, hn6, _⟩ := id I6.loc
    exact wpAny_nameGoes hkn hn6 hp fun h7 m7 hn7 hs7 => ⟨v, _, H6, (Inv.outExc I.ok I6).renamed hs7 hn7, rv, qv⟩
  | next => obtain ⟨_, _, _, z⟩ := sp6; exact z.elim
  | brk => obtain ⟨_, _, _, z⟩ := sp6; exact z.elim
  | cont => obtain ⟨_, _, _, z⟩ := sp6; exact z.elim
end L2
namespace L2
open PySem PySem.Spec PyProof.Rows
section
variable {X : Cx} {H : Hp} {Q : VK} {K : PySem.W.Frag}
def rIsiX (K : PySem.W.Frag) : List V → Hp → VK → Prop := fun xs H Q => ∃ x C c b, xs = [.ref x, c] ∧ H x = some (.ext (ExAt x C)) ∧ Exc K C ∧ ((∃ T, c = .ty T) ∨ ∃ D, c = .ref D) ∧ PySem.W.kitOne K (.ref C) (clsV c) = some b ∧ Q (.bl b) H
theorem call_isiX : CallR X (.builtin "isinstance") (rIsiX X.K) := by
  intro pins s σ H xs us Q I r h
  obtain ⟨x, C, c, b, rfl, hx, ex, hc, e, q⟩ := h
  obtain ⟨v, w, rfl, rx, rw'⟩ := vals2 r
  cases rx
  have : w = clsV c := by
    rcases hc with ⟨T, rfl⟩ | ⟨D, rfl⟩
    · exact rw'
    · exact rw'
  subst this
  exact PySem.W.kia_one (ex_kit ex) I.kIn (I.hok x _ hx).1 e (fun z => nomatch z) fun tk => ⟨.bl b, H, I.tok _, rfl, q⟩
theorem r_isiX {x C : Addr} {c : V} {b : Bool} (hx : H x = some (.ext (ExAt x C))) (ex : Exc K C) (hc : (∃ T, c = .ty T) ∨ ∃ D, c = .ref D) (e : PySem.W.kitOne K (.ref C) (clsV c) = some b) (q : Q (.bl b) H) : rIsiX K [.ref x, c] H Q := ⟨x, C, c, b, rfl, hx, ex, hc, e, q⟩
theorem vals_refs : ∀ {Ds : List Addr} {us : List Value}, Vals (Ds.map V.ref) us → us = Ds.map Value.ref
  | [], _, .nil => rfl
  | D :: Ds, _, .cons r t => by cases r; rw [vals_refs t]; rfl
def rIsiT (K : PySem.W.Frag) : List V → Hp → VK → Prop := fun xs H Q => ∃ (x C p : Addr) (Ds : List Addr) (b : Bool), xs = [.ref x, .ref p] ∧ H x = some (.ext (ExAt x C)) ∧ Exc K C ∧ H p = some (.tup (Ds.map V.ref)) ∧ PySem.W.kitAny K (.ref C) (Ds.map Value.ref) = some b ∧ Q (.bl b) H
theorem call_isiT : CallR X (.builtin "isinstance") (rIsiT X.K) := by
  intro pins s σ H xs us Q I r h
  obtain ⟨x, C, p, Ds, b, rfl, hx, ex, hp, e, q⟩ := h
  obtain ⟨v, w, rfl, rx, rp⟩ := vals2 r
  cases rx; cases rp
  obtain ⟨_, its, ri, o, ho, hc, n, hd⟩ := I.hok p _ hp
  have := vals_refs ri
  subst this
  obtain ⟨oc, od, odt, osl⟩ := o
  simp only at hc hd
  subst hc hd
  exact PySem.W.kia_tup (ex_kit ex) I.kIn (I.hok x _ hx).1 ho e (fun z => nomatch z) fun tk => ⟨.bl b, H, I.tok _, rfl, q⟩
theorem r_isiT {x C p : Addr} {Ds : List Addr} {b : Bool} (hx : H x = some (.ext (ExAt x C))) (ex : Exc K C) (hp : H p = some (.tup (Ds.map V.ref))) (e : PySem.W.kitAny K (.ref C) (Ds.map Value.ref) = some b) (q : Q (.bl b) H) : rIsiT K [.ref x, .ref p] H Q := ⟨x, C, p, Ds, b, rfl, hx, ex, hp, e, q⟩
theorem Fun.okX {P : Program} {w : World} {K : PySem.W.Frag} {mg : Str → Option Value} {base : Heap} {x qual : Str} {st : Stmt} {f : Addr} {fd : FuncData} {N ps : List Str} {k : Nat} {sp : Sp} (F : Fun K x qual st f fd) (S : FnScope N ps (defScope st)) (len : ∀ vs H Q E, sp vs H Q E → vs.length = ps.length)
    (hbody : ∀ (cdv : Value) (A : Around) (outer : List Env) (s : Shared) (H : Hp) (vs : List V) (Q : VK) (E : XK), Room k (A.deeper (envOfC qual (defScope st) s.heap.objs.size f cdv)) → sp vs H Q E →
      Takes (cxOf (CXE P w) P w K mg base N qual (defScope st) f cdv A outer s H E) E → ∃ t, PSs (cxOf (CXE P w) P w K mg base N qual (defScope st) f cdv A outer s H E) (defBody st) t ∧ t { nx := fun _ H' => Q .non H', rt := Q } (start N vs) H) : FnOk P w K mg base (CXE P w) (k + 1) f fd ps sp := by
  obtain ⟨oc, od, kV, doc, pm, an, cdv, ct, osl, rfl, lk, hcd⟩ := F.ex
  exact fn_of lk hcd S len fun A outer s H vs Q E hr hsp => hbody cdv A outer s H vs Q E hr hsp fun pins σ H s h' x C args I hm q => leaves_made I hm q
theorem FnOk.calm {P : Program} {w : World} {K : PySem.W.Frag} {mg : Str → Option Value} {base : Heap} {k : Nat} {f : Addr} {fd : FuncData} {ps : List Str} {sp : Sp} (F : FnOk P w K mg base (CXE P w) k f fd ps sp) : FnOk P w K mg base CX0 k f fd ps (fun vs H Q _ => sp vs H Q E0) :=
  ⟨fun vs H Q _ h => F.len vs H Q E0 h, fun A outer s H args us vs Q _ hr he hb hv hs => codeAny_mono (F.run A outer s H args us vs Q E0 hr he hb hv hs) fun r s' hq => by
    cases r with
    | ok fl => cases fl <;> exact hq
    | error e =>
      obtain ⟨_, _, _, _, _, _, _, _, _, _, _, _, z⟩ := hq
      exact z.elim⟩
end
end L2
set_option Elab.async false
set_option linter.all false
set_option maxRecDepth 100000
set_option maxHeartbeats 400000
namespace L2
open PySem PySem.Spec PyProof.Rows
section
variable {X : Cx} {H : Hp} {Q : VK} {K : PySem.W.Frag} {σ : St} {pos p1 p2 : Pos} {n1 n2 : Nat} {a b : Int}
def dctO (p : Addr) : HO := .ext (PySem.W.KitAt p "dict")
def tDct : TE := fun _ H Q => ∀ p H', Same H H' → H' p = some (dctO p) → Q (.ref p) H'
inductive Odd (H : Hp) : V → Prop where
  | non : Odd H .non
  | bl (b : Bool) : Odd H (.bl b)
  | str (x : Str) : Odd H (.str x)
  | lst {p : Addr} {xs : List V} (e : H p = some (.lst xs)) : Odd H (.ref p)
  | tup {p : Addr} {xs : List V} (e : H p = some (.tup xs)) : Odd H (.ref p)
  | dct {p : Addr} (e : H p = some (dctO p)) : Odd H (.ref p)
theorem Odd.same {H H' : Hp} {v : V} (h : Odd H v) (g : Same H H') : Odd H' v := by
  cases h with
  | non => exact .non
  | bl b => exact .bl b
  | str x => exact .str x
  | lst e => exact .lst (g _ _ e)
  | tup e => exact .tup (g _ _ e)
  | dct e => exact .dct (g _ _ e)
def rIsiO (K : PySem.W.Frag) : List V → Hp → VK → Prop := fun xs H Q => rIsi K xs H Q ∨ ∃ p T b, xs = [.ref p, .ty T] ∧ H p = some (dctO p) ∧ PySem.W.kitOne K (.type "dict") (.type T) = some b ∧ Q (.bl b) H
theorem r_isiO_bl {i : Bool} {T : String} {b : Bool} (e : PySem.W.kitOne K (.type "bool") (.type T) = some b) (q : Q (.bl b) H) : rIsiO K [.bl i, .ty T] H Q := .inl (r_isi (.bl i) ⟨_, .inl rfl⟩ e q)
theorem r_isiO_str {x : Str} {T : String} {b : Bool} (e : PySem.W.kitOne K (.type "str") (.type T) = some b) (q : Q (.bl b) H) : rIsiO K [.str x, .ty T] H Q := .inl (r_isi (.str x) ⟨_, .inl rfl⟩ e q)
theorem r_isiO_non {T : String} {b : Bool} (e : PySem.W.kitOne K (.type "NoneType") (.type T) = some b) (q : Q (.bl b) H) : rIsiO K [.non, .ty T] H Q := .inl (r_isi .non ⟨_, .inl rfl⟩ e q)
theorem r_isiO_lst {p : Addr} {xs : List V} {T : String} {b : Bool} (h : H p = some (.lst xs)) (e : PySem.W.kitOne K (.type "list") (.type T) = some b) (q : Q (.bl b) H) : rIsiO K [.ref p, .ty T] H Q := .inl (r_isi (.lst h) ⟨_, .inl rfl⟩ e q)
theorem r_isiO_tup {p : Addr} {xs : List V} {T : String} {b : Bool} (h : H p = some (.tup xs)) (e : PySem.W.kitOne K (.type "tuple") (.type T) = some b) (q : Q (.bl b) H) : rIsiO K [.ref p, .ty T] H Q := .inl (r_isi (.tup h) ⟨_, .inl rfl⟩ e q)
theorem r_isiO_dct {p : Addr} {T : String} {b : Bool} (h : H p = some (dctO p)) (e : PySem.W.kitOne K (.type "dict") (.type T) = some b) (q : Q (.bl b) H) : rIsiO K [.ref p, .ty T] H Q := .inr ⟨p, T, b, rfl, h, e, q⟩
theorem Odd.int {v : V} (h : Odd H v) (q1 : Q (.bl true) H) (q0 : Q (.bl false) H) : rIsiO K [v, .ty "int"] H Q := by
  cases h with
  | non => exact r_isiO_non (kit_NoneType_int K) q0
  | bl b => exact r_isiO_bl (kit_bool_int K) q1
  | str x => exact r_isiO_str (kit_str_int K) q0
  | lst e => exact r_isiO_lst e (kit_list_int K) q0
  | tup e => exact r_isiO_tup e (kit_tuple_int K) q0
  | dct e => exact r_isiO_dct e (kit_dict_int K) q0
def rStrI : List V → Hp → VK → Prop := fun xs H Q => ∃ i : Int, xs = [.int i] ∧ 0 ≤ i ∧ i < 100000 ∧ ∀ x, Q (.str x) H
theorem r_raise {C : Addr} {E : XK} {t : TA} {D : Ends} {σ : St} (h : t σ H fun vs H1 => vs.length ≤ sizeLine ∧ E (.ref C) none H1) : tRaise C E t D σ H := h
theorem r_tryX {sp : Sp} {C' : Addr} {i : Nat} {t : TA} {ts : TS} {D : Ends} (h : t σ H fun vs H1 => sp (vs ++ []) H1 (fun _ H2 => D.nx σ H2) (fun cls _ H2 => ∃ C, cls = .ref C ∧ Exc K C ∧ PySem.W.exmOne K (.ref C) (.ref C') = some true ∧
  ∀ x, H2 x = none → ts { nx := fun _ _ => False, rt := D.rt } (σ.set i (some (.ref x))) (upd H2 x (.ext (ExAt x C))))) : tTryX K sp C' i t ts D σ H := h
theorem bo_ValueError : bootBuiltins "ValueError" = some (.type "ValueError") := by decide +kernel
def spc (sp : Sp) : Sp := fun vs H Q _ => sp vs H Q E0
def Nm (K : PySem.W.Frag) (x : Str) (C : Addr) : Prop := PySem.W.nsIn K mainGlobals x = some (some (.ref C))
theorem Nm.eq {x : Str} {C C' : Addr} (h : Nm K x C) (h' : Nm K x C') : C = C' := by
  have := h.symm.trans h'
  cases this; rfl
theorem call_isiXK {K : PySem.W.Frag} (e : X.K = K) : CallR X (.builtin "isinstance") (rIsiX K) := e ▸ call_isiX
theorem call_isiTK {K : PySem.W.Frag} (e : X.K = K) : CallR X (.builtin "isinstance") (rIsiT K) := e ▸ call_isiT
def isDct1 : Expr → Bool
  | .Dict [some (.Constant (.int _) _ _)] [.Constant (.int _) _ _] _ => true
  | _ => false
theorem r_bmL {T : String} {r : V → List V → Hp → VK → Prop} {to : TE} {t : TA} (h : to σ H fun x H1 => tyV K T x H1 ∧ t σ H1 fun xs H2 => r x xs H2 Q) : tBM K T r to t σ H Q := h
theorem r_tyLL {p : Addr} {xs : List V} {R : Prop} (h : SqL K H p xs) (q : R) : tyV K "list" (.ref p) H ∧ R := ⟨.inl ⟨rfl, _, h⟩, q⟩
theorem r_append {l : Addr} {xs : List V} {y : V} (h : H l = some (.lst xs)) (h2 : xs.length < sizeLine) (q : Q .non (upd H l (.lst (xs ++ [y])))) : rAppend (.ref l) [y] H Q := ⟨l, xs, y, rfl, rfl, h, h2, q⟩
def SB (r : Addr) (H F : Hp) : Prop := ∀ b o, b ≠ r → H b = some o → F b = some o
theorem SB.then {r : Addr} {H F G : Hp} (h : SB r H F) (g : Same F G) : SB r H G := fun b u n e => g _ _ (h b u n e)
theorem SB.refl {r : Addr} {H : Hp} : SB r H H := fun _ _ _ e => e
theorem SB.same {r : Addr} {H F : Hp} (h : SB r H F) (n : H r = none) : Same H F := fun b o e => h b o (ne_of_none e n) e
end
end L2
set_option Elab.async false
set_option linter.all false
set_option maxRecDepth 100000
set_option maxHeartbeats 400000
namespace L2
open PySem PySem.Spec PyProof.Rows
section
variable {X : Cx} {H : Hp} {Q : VK} {K : PySem.W.Frag}
def rAddS : R2 := fun x y H Q => ∃ i j : Str, x = .str i ∧ y = .str j ∧ i.length + j.length ≤ sizeLine ∧ Q (.str (i ++ j)) H
theorem op_addS : OpR X (binaryOp .Add) rAddS := op_add_str
theorem r_addS {i j : Str} (hz : i.length + j.length ≤ sizeLine) (q : Q (.str (i ++ j)) H) : rAddS (.str i) (.str j) H Q := ⟨i, j, rfl, rfl, hz, q⟩
theorem r_ixS {z : Str} {i : Int} {c : Nat} (hz : z.length ≤ sizeLine) (e : atI z.cps.toList i = some c) (q : Q (.str ⟨#[c]⟩) H) : rIxS (.str z) (.int i) H Q := ⟨z, i, c, rfl, rfl, hz, e, q⟩
def rLenT : List V → Hp → VK → Prop := fun xs H Q => ∃ z : Str, xs = [.str z] ∧ z.length ≤ sizeLine ∧ Q (.int z.length) H
theorem call_lenT : CallR X (.builtin "len") rLenT := call_len_str
theorem r_lenS {z : Str} (hz : z.length ≤ sizeLine) (q : Q (.int z.length) H) : rLenT [.str z] H Q := ⟨z, rfl, hz, q⟩
def rInS : R2 := fun x y H Q => ∃ i j : Str, x = .str i ∧ y = .str j ∧ Q (.bl (!(Builtin.Str.occurrences j i 0 j.length 1).isEmpty)) H
theorem r_eqT2 {i j : Str} (q : Q (.bl (decide (i = j))) H) : rEq (.str i) (.str j) H Q := r_eqS rfl q
theorem r_isi_ss {x : Str} (q : Q (.bl true) H) : rIsi K [.str x, .ty "str"] H Q := r_isi (.str x) ⟨_, .inl rfl⟩ (kit_str_str K) q
def rSlS : V → Option Int → Option Int → Hp → VK → Prop := fun x lo hi H Q => ∃ z : Str, x = .str z ∧ z.length ≤ sizeLine ∧ Q (.str (Txt.slice z lo hi)) H
theorem sl_str : SlR X rSlS := by
  intro pins s σ H x v vl vu lo hi sl Q I rx hs pl pu h
  obtain ⟨z, rfl, hz, q⟩ := h
  obtain ⟨t, rfl⟩ := rx
  refine ⟨"str", _, PySem.F.slot_str_getitem.lookup, typeIs_str _ _ _, ?_⟩
  have fin : ∀ (t' : Tok) (k : Nat), EP X pins σ Q (.str (Txt.slice z lo hi) t') { s with toks := k } := fun t' k => ⟨.str _, H, I.tok _, ⟨t', rfl⟩, q⟩
  have le := Nat.le_trans (Txt.slice_le z lo hi) hz
  cases pl <;> cases pu
  · exact wpAny_getItem_str_slice (l := none) (u := none) (st := none) hs rfl (post_val_or_str ⟨le, fin⟩)
  · exact wpAny_getItem_str_slice (l := none) (u := some (_, _)) (st := none) hs rfl (post_val_or_str ⟨le, fin⟩)
  · exact wpAny_getItem_str_slice (l := some (_, _)) (u := none) (st := none) hs rfl (post_val_or_str ⟨le, fin⟩)
  · exact wpAny_getItem_str_slice (l := some (_, _)) (u := some (_, _)) (st := none) hs rfl (post_val_or_str ⟨le, fin⟩)
theorem r_slS {z : Str} {lo hi : Option Int} (hz : z.length ≤ sizeLine) (q : Q (.str (Txt.slice z lo hi)) H) : rSlS (.str z) lo hi H Q := ⟨z, rfl, hz, q⟩
end
end L2
set_option Elab.async false
set_option linter.all false
set_option maxRecDepth 100000
set_option maxHeartbeats 400000
namespace L2
open PySem PySem.Spec PyProof.Rows
abbrev Lt (x : Str) : List Nat := x.cps.toList
def T (l : List Nat) : Str := ⟨l.toArray⟩
theorem Lt_T (l : List Nat) : Lt (T l) = l := rfl
theorem T_Lt (x : Str) : T (Lt x) = x := by cases x; simp [T, Lt]
theorem Lt_inj {x y : Str} (h : Lt x = Lt y) : x = y := by rw [← T_Lt x, ← T_Lt y, h]
theorem T_eq {a b : List Nat} : T a = T b ↔ a = b := ⟨fun h => by have := congrArg Lt h; rwa [Lt_T, Lt_T] at this, fun h => by rw [h]⟩
theorem len_Lt (x : Str) : x.length = (Lt x).length := rfl
theorem app_T (x y : Str) : x ++ y = T (Lt x ++ Lt y) := Lt_inj (by rw [Lt_T]; show (x.cps ++ y.cps).toList = _; simp)
theorem getD_app1 {a b : List Nat} {i : Nat} (h : i < a.length) : (a ++ b).getD i 0 = a.getD i 0 := by
  rw [List.getD_eq_getElem?_getD, List.getD_eq_getElem?_getD, List.getElem?_append_left h]
theorem getD_app2 {a b : List Nat} {i : Nat} (h : a.length ≤ i) : (a ++ b).getD i 0 = b.getD (i - a.length) 0 := by
  rw [List.getD_eq_getElem?_getD, List.getD_eq_getElem?_getD, List.getElem?_append_right h]
theorem fm_take (l : List Nat) (a : Nat) : ∀ m : Nat, (List.range m).filterMap (fun k => l[a + k]?) = (l.drop a).take m
  | 0 => by simp
  | m + 1 => by
    rw [List.range_succ, List.filterMap_append, fm_take l a m, List.take_succ]
    congr 1
    rw [List.getElem?_drop]
    rw [List.filterMap_cons]
    cases l[a + m]? <;> rfl
def cl (n d : Nat) : Option Int → Nat
  | none => d
  | some i => (max 0 (min (if i < 0 then i + n else i) (n : Int))).toNat
theorem slice_T (z : Str) (lo hi : Option Int) : Txt.slice z lo hi = T (((Lt z).take (cl (Lt z).length (Lt z).length hi)).drop (cl (Lt z).length 0 lo)) := by
  have e : Builtin.Str.strSliceIndices lo hi 1 z.length = (List.range (cl (Lt z).length (Lt z).length hi - cl (Lt z).length 0 lo)).map (fun x => cl (Lt z).length 0 lo + x) := by
    rw [← sliceRange_one]
    unfold Builtin.Str.strSliceIndices
    cases lo <;> cases hi <;> simp [cl, len_Lt, Int.toNat_of_nonneg, Int.le_max_left]
  have k : (List.filterMap (fun x => z.cps[x]?) (Builtin.Str.strSliceIndices lo hi 1 z.length)) = ((Lt z).take (cl (Lt z).length (Lt z).length hi)).drop (cl (Lt z).length 0 lo) := by
    rw [e, List.filterMap_map]
    have f : ((fun x => z.cps[x]?) ∘ fun x => cl (Lt z).length 0 lo + x) = fun k => (Lt z)[cl (Lt z).length 0 lo + k]? := by funext k; simp [Lt]
    rw [f, fm_take, List.drop_take]
  unfold Txt.slice
  split
  · rename_i h
    have hl : (Builtin.Str.strSliceIndices lo hi 1 z.length).length = (Lt z).length := (by simpa using h : _ = z.length)
    rw [e, List.length_map, List.length_range] at hl
    have b1 : cl (Lt z).length (Lt z).length hi ≤ (Lt z).length := by
      unfold cl; split <;> omega
    rcases Nat.eq_zero_or_pos (Lt z).length with p | p
    · rw [List.eq_nil_of_length_eq_zero p]; simp
      exact Lt_inj (List.eq_nil_of_length_eq_zero p)
    · rw [show cl (Lt z).length 0 lo = 0 by omega, show cl (Lt z).length (Lt z).length hi = (Lt z).length by omega, List.take_length, List.drop_zero, T_Lt]
  · rw [k]; rfl
section
variable {X : Cx} {H : Hp} {Q : VK} {K : PySem.W.Frag}
theorem rT_add {x y : Str} (hz : (Lt x).length + (Lt y).length ≤ 16777216) (q : Q (.str (T (Lt x ++ Lt y))) H) : rAddS (.str x) (.str y) H Q := r_addS hz (by rw [app_T]; exact q)
theorem rT_len {z : Str} (hz : (Lt z).length ≤ 16777216) (q : Q (.int (Lt z).length) H) : rLenT [.str z] H Q := r_lenS hz q
theorem rT_ix {z : Str} {i : Int} (hz : (Lt z).length ≤ 16777216) (h0 : 0 ≤ i) (h1 : i < (Lt z).length) (q : Q (.str (T [(Lt z).getD i.toNat 0])) H) : rIxS (.str z) (.int i) H Q := by
  refine r_ixS (c := (Lt z).getD i.toNat 0) hz ?_ q
  unfold atI ixN
  rw [if_pos h0, if_pos h1]
  show (Lt z)[i.toNat]? = _
  rw [List.getD_eq_getElem?_getD, List.getElem?_eq_getElem (by omega)]; rfl
theorem rT_ixK {z : Str} {i : Int} (n : Nat) (hn : (Lt z).length = n) (hz : n ≤ 16777216) (h0 : 0 ≤ i) (h1 : i < n) (q : ∀ c, c ∈ Lt z → Q (.str (T [c])) H) : rIxS (.str z) (.int i) H Q := by
  refine rT_ix (by omega) h0 (by omega) (q _ ?_)
  rw [List.getD_eq_getElem?_getD, List.getElem?_eq_getElem (by omega)]
  exact List.getElem_mem _
theorem rT_sl0 {z : Str} {j : Int} (hz : (Lt z).length ≤ 16777216) (h : 0 ≤ j) (q : Q (.str (T ((Lt z).take j.toNat))) H) : rSlS (.str z) none (some j) H Q := by
  refine r_slS hz ?_
  rw [slice_T]
  have e : (Lt z).take (cl (Lt z).length (Lt z).length (some j)) = (Lt z).take j.toNat := by
    unfold cl; dsimp only; rw [if_neg (by omega)]
    rcases Int.le_total j (Lt z).length with p | p
    · rw [Int.min_eq_left p, Int.max_eq_right h]
    · rw [Int.min_eq_right p, Int.max_eq_right (by omega), List.take_of_length_le (by omega), List.take_of_length_le (by omega)]
  rw [e]; exact q
theorem cl_drop (l : List Nat) {i : Int} (h : 0 ≤ i) (n d : Nat) (hn : l.length ≤ n) : l.drop (cl n d (some i)) = l.drop i.toNat := by
  unfold cl; dsimp only; rw [if_neg (by omega)]
  rcases Int.le_total i n with p | p
  · rw [Int.min_eq_left p, Int.max_eq_right h]
  · rw [Int.min_eq_right p, Int.max_eq_right (by omega), List.drop_of_length_le (by omega), List.drop_of_length_le (by omega)]
theorem cl_take (l : List Nat) {i : Int} (h : 0 ≤ i) (d : Nat) : l.take (cl l.length d (some i)) = l.take i.toNat := by
  unfold cl; dsimp only; rw [if_neg (by omega)]
  rcases Int.le_total i l.length with p | p
  · rw [Int.min_eq_left p, Int.max_eq_right h]
  · rw [Int.min_eq_right p, Int.max_eq_right (by omega), List.take_of_length_le (by omega), List.take_of_length_le (by omega)]
theorem rT_sli {z : Str} {i : Int} (hz : (Lt z).length ≤ 16777216) (h : 0 ≤ i) (q : Q (.str (T ((Lt z).drop i.toNat))) H) : rSlS (.str z) (some i) none H Q := by
  refine r_slS hz ?_
  rw [slice_T, cl_drop _ h _ _ (by rw [List.length_take]; omega)]
  show Q (.str (T (((Lt z).take (Lt z).length).drop i.toNat))) H
  rw [List.take_length]; exact q
theorem rT_slij {z : Str} {i j : Int} (hz : (Lt z).length ≤ 16777216) (h : 0 ≤ i) (h' : 0 ≤ j) (q : Q (.str (T (((Lt z).take j.toNat).drop i.toNat))) H) : rSlS (.str z) (some i) (some j) H Q := by
  refine r_slS hz ?_
  rw [slice_T, cl_drop _ h _ _ (by rw [List.length_take]; omega), cl_take _ h']
  exact q
def rMulT : R2 := fun x y H Q => ∃ (z : Str) (n : Int), x = .str z ∧ y = .int n ∧ n < 16777216 ∧ -16777216 < n ∧ (Lt z).length * n.toNat ≤ 16777216 ∧ Q (.str (T (List.replicate n.toNat (Lt z)).flatten)) H
theorem rT_mul1 {c : Nat} {n : Int} (h1 : n < 16777216) (h2 : -16777216 < n) (q : Q (.str (T (List.replicate n.toNat c))) H) : rMulT (.str (T [c])) (.int n) H Q :=
  ⟨T [c], n, rfl, rfl, h1, h2, by rw [Lt_T, List.length_singleton, Nat.one_mul]; omega, by rw [Lt_T, List.flatten_replicate_singleton]; exact q⟩
theorem r_neT2 {i j : Str} (q : Q (.bl (!decide (i = j))) H) : rNe (.str i) (.str j) H Q := ⟨rfl, by
  have e : decide (V.str i = V.str j) = decide (i = j) := by
    by_cases h : i = j
    · rw [decide_eq_true h, decide_eq_true (congrArg V.str h)]
    · rw [decide_eq_false h, decide_eq_false (fun z => h (V.str.inj z))]
  rw [e]; exact q⟩
theorem rTT_add {a b : List Nat} (hz : a.length + b.length ≤ 16777216) (q : Q (.str (T (a ++ b))) H) : rAddS (.str (T a)) (.str (T b)) H Q := rT_add hz q
theorem rTT_len {a : List Nat} (hz : a.length ≤ 16777216) (q : Q (.int a.length) H) : rLenT [.str (T a)] H Q := rT_len hz q
theorem rTT_ix {a : List Nat} {i : Int} (hz : a.length ≤ 16777216) (h0 : 0 ≤ i) (h1 : i < a.length) (q : Q (.str (T [a.getD i.toNat 0])) H) : rIxS (.str (T a)) (.int i) H Q := rT_ix hz h0 h1 q
theorem rTT_sl0 {a : List Nat} {j : Int} (hz : a.length ≤ 16777216) (h : 0 ≤ j) (q : Q (.str (T (a.take j.toNat))) H) : rSlS (.str (T a)) none (some j) H Q := rT_sl0 hz h q
theorem rTT_sli {a : List Nat} {i : Int} (hz : a.length ≤ 16777216) (h : 0 ≤ i) (q : Q (.str (T (a.drop i.toNat))) H) : rSlS (.str (T a)) (some i) none H Q := rT_sli hz h q
theorem rTT_slij {a : List Nat} {i j : Int} (hz : a.length ≤ 16777216) (h : 0 ≤ i) (h' : 0 ≤ j) (q : Q (.str (T ((a.take j.toNat).drop i.toNat))) H) : rSlS (.str (T a)) (some i) (some j) H Q := rT_slij hz h h' q
theorem rTT_eq {a b : List Nat} (q : Q (.bl (decide (a = b))) H) : rEq (.str (T a)) (.str (T b)) H Q := r_eqT2 (by
  have e : decide (T a = T b) = decide (a = b) := decide_eq_decide.mpr T_eq
  rw [e]; exact q)
theorem rTT_ne {a b : List Nat} (q : Q (.bl (!decide (a = b))) H) : rNe (.str (T a)) (.str (T b)) H Q := r_neT2 (by
  have e : decide (T a = T b) = decide (a = b) := decide_eq_decide.mpr T_eq
  rw [e]; exact q)
theorem r_ixAll {p : Addr} {xs : List V} {i : Int} (h : SqL K H p xs) (h0 : 0 ≤ i) (h1 : i < xs.length) (q : ∀ x, xs[i.toNat]? = some x → Q x H) : rIxL K (.ref p) (.int i) H Q := by
  have h2 : i.toNat < xs.length := by omega
  have e : atI xs ((i.toNat : Nat) : Int) = some xs[i.toNat] := atI_nat (List.getElem?_eq_getElem h2)
  rw [show ((i.toNat : Nat) : Int) = i by omega] at e
  exact r_ixL h e (q _ (List.getElem?_eq_getElem h2))
def rFindT : V → List V → Hp → VK → Prop := fun x xs H Q => ∃ z y : Str, x = .str z ∧ xs = [.str y] ∧ Q (.int (Txt.find z y)) H
theorem mt_findT : MtR X "str.find" rFindT := by
  intro pins s σ H x xs v us Q I rx rv h
  obtain ⟨z, y, rfl, rfl, q⟩ := h
  obtain ⟨t, rfl⟩ := rx
  obtain ⟨u, rfl, ru⟩ := rv.one
  obtain ⟨t', rfl⟩ := ru
  exact SC.find ⟨.int _, H, I.tok _, ⟨_, rfl⟩, q⟩
theorem r_findT {z y : Str} (q : Q (.int (Txt.find z y)) H) : rFindT (.str z) [.str y] H Q := ⟨z, y, rfl, rfl, q⟩
theorem r_tyS {z : Str} {R : Prop} (q : R) : tyV K "str" (.str z) H ∧ R := ⟨rfl, q⟩
end
end L2
set_option Elab.async false
set_option linter.all false
set_option maxRecDepth 100000
set_option maxHeartbeats 400000
namespace L2
open PySem PySem.Spec PyProof.Rows
def Its (x : Str) : It := ⟨fun i _ => i < (Lt x).length, fun i H v H' => H' = H ∧ ∃ c, (Lt x)[i]? = some c ∧ v = .str (T [c]), fun i _ => i = (Lt x).length⟩
theorem turn_str {P : Program} {w : World} {K : PySem.W.Frag} {tg : Expr} (x : Str) (t : Tok) (it : Addr) (ty : String) (hty : ty = "str_ascii_iterator" ∨ ty = "str_iterator") : Turn P w K tg (Its x) [it] it (fun i h => h.IsStrIter it ty x t i) where
  mem := by simp
  obj := fun i h st b hb => by
    have e : b = it := by simpa using hb
    subst e
    obtain ⟨o, e, c, d⟩ := st
    exact ⟨o, e, fun v z => by rw [d] at z; cases z⟩
  keep := fun i h h' st k => by
    obtain ⟨o, e, c, d⟩ := st
    exact ⟨o, k it (by simp) o e, c, d⟩
  item := by
    intro X hP hw hK hc i pins s σ H E I hf st hg
    subst hP hw hK
    obtain ⟨f0, f1, f2, f3, f4, f5⟩ := hf it (by simp)
    have W : Walks X.prog X.w X.A it [it] [it] x.cps.size (SignAt x) (fun i h => h.IsStrIter it ty x t i) := by
      rcases hty with rfl | rfl
      · exact Walks.strAscii (I.ok.hd hc) it x t
      · exact Walks.strWide (I.ok.hd hc) it x t
    refine W.item i s _ _ hg st fun v h' tk hv st' kk => ?_
    obtain ⟨c, u, hcu, rfl⟩ := hv
    have I1 : Inv X pins σ H { s with heap := h', toks := tk } := I.turned (fun b o hb e => kk b o (by simpa using hb) e) f0 f1 f3 f4 f5
    obtain ⟨o, e, c1, d⟩ := id st'
    have hn : ["enumerate", "zip", "dict_itemiterator", "dict_reverseitemiterator", "odict_iterator", "itertools.zip_longest", "itertools.pairwise"].contains ty = false := by rcases hty with rfl | rfl <;> decide
    exact ⟨_, rfl, go_of (s := { s with heap := h', toks := tk }) e c1 d hn ⟨.str (T [c]), H, I1, ⟨u, rfl⟩, ⟨rfl, c, by simpa [Lt] using hcu, rfl⟩, st', fun b hb => (hf b hb).1⟩⟩
  done := by
    intro X hP hw hK hc i pins s σ H E I hf st hg
    subst hP hw hK
    obtain ⟨f0, f1, f2, f3, f4, f5⟩ := hf it (by simp)
    have W : Walks X.prog X.w X.A it [it] [it] x.cps.size (SignAt x) (fun i h => h.IsStrIter it ty x t i) := by
      rcases hty with rfl | rfl
      · exact Walks.strAscii (I.ok.hd hc) it x t
      · exact Walks.strWide (I.ok.hd hc) it x t
    have hi : i = x.cps.size := hg
    subst hi
    exact W.done s _ _ st fun h' tk kk => ⟨rfl, I.turned (fun b o hb e => kk b o (by simpa using hb) e) f0 f1 f3 f4 f5⟩
  self := fun _ _ _ _ _ st h => by
    rcases hty with rfl | rfl
    · exact wpAny_pyIter_striter_ascii st h
    · exact wpAny_pyIter_striter_wide st h
section
variable {X : Cx} {tg : Expr}
def iStr (tl : TE) : TI := fun σ H R => tl σ H fun x H1 => ∃ z : Str, x = .str z ∧ R (Its z) H1
theorem pi_strT {l : Expr} {tl : TE} (hl : PE X l tl) : PI X tg l (iStr tl) := by
  intro pins s σ H R I h
  refine thn (hl pins s σ H _ I h) fun v s1 ⟨x, H1, I1, r1, q1⟩ => ?_
  obtain ⟨z, e, q⟩ := q1
  subst e
  obtain ⟨t, rfl⟩ := r1
  have hty : strIterType z = "str_ascii_iterator" ∨ strIterType z = "str_iterator" := by unfold strIterType; split <;> simp
  refine wpAny_pyIter_strU ?_
  refine ⟨s1.heap.objs.size, [s1.heap.objs.size], _, _, H1, rfl, I1.kept (t' := s1.toks) fun b o e => Heap.get?_push_of_some _ e, turn_str z t _ _ hty, ⟨_, Heap.get?_push_size _ rfl, rfl, rfl⟩, fun b hb => ?_, q⟩
  have e : b = s1.heap.objs.size := by simpa using hb
  subst e
  exact I1.fpOk (Nat.le_refl _) (I1.hok.fresh (Nat.le_refl _))
end
section
variable {σ : St} {H : Hp} {Q : VK} {D : Ends} {K : PySem.W.Frag}
def kForS (g : TG) (tb : TS) (D : Ends) (σ : St) (x : V) (H : Hp) : Prop := ∃ z : Str, x = .str z ∧ ∃ W : Nat → Nat → St → Hp → Prop, (∃ m, W 0 m σ H) ∧ ∀ i m σ H, W i m σ H →
  ((Its z).stop i H ∧ D.nx σ H) ∨ ((Its z).go i H ∧ ∃ N : St → Hp → Prop, (∀ σ' H', N σ' H' → ∃ m', m' < m ∧ W (i + 1) m' σ' H') ∧ ∀ x H', (Its z).yld i H x H' → g x σ H' fun σ2 H2 => tb { D with nx := N, ct := N, bk := D.nx } σ2 H2)
theorem r_forS {tl : TE} {g : TG} {tb : TS} (h : tl σ H (kForS g tb D σ)) : tFor (iStr tl) g tb D σ H := h
theorem r_kForS {g : TG} {tb : TS} {a : List Nat} (Pv : Nat → St → Hp → Prop) (h0 : Pv 0 σ H)
    (hs : ∀ i c σ H, a[i]? = some c → Pv i σ H → g (.str (T [c])) σ H fun σ2 H2 => tb { D with nx := Pv (i + 1), ct := Pv (i + 1), bk := D.nx } σ2 H2) (hd : ∀ σ H, Pv a.length σ H → D.nx σ H) : kForS g tb D σ (.str (T a)) H := by
  refine ⟨T a, rfl, fun i m σ H => i + m = a.length ∧ Pv i σ H, ⟨a.length, by omega, h0⟩, ?_⟩
  rintro i m σ H ⟨hm, hp⟩
  rcases Nat.lt_or_ge i a.length with h | h
  · refine .inr ⟨h, Pv (i + 1), fun σ' H' hp' => ⟨m - 1, by omega, by omega, hp'⟩, ?_⟩
    rintro x H' ⟨rfl, c, hc, rfl⟩
    exact hs i c σ H' hc hp
  · have e : i = a.length := by omega
    subst e
    exact .inl ⟨rfl, hd σ H hp⟩
end
theorem r_slCat {K : PySem.W.Frag} {H : Hp} {Q : VK} {a p0 : Addr} {v : Int} {ns : List Int} {lo hi : Option Int} (hS : SqL K H a (ns.map V.int)) (h63 : ns.length ≤ 63) (e0 : H p0 = some (.lst [.int v]))
    (q : ∀ (zs : List Int) (p : Addr) (H' : Hp), Same H H' → H' p = some (.lst (zs.map V.int)) → 0 < zs.length → zs.length ≤ 64 → Q (.ref p) H') : rSlL K (.ref a) lo hi H (fun y H2 => rCat (.ref p0) y H2 Q) := by
  refine r_slL hS ?_
  intro p1 H1 g1 e1
  obtain ⟨ys, ey, hy⟩ := cutV_map V.int ns lo hi
  have ly := cutV_length (ns.map V.int) lo hi
  rw [ey] at e1 ly
  rw [List.length_map, List.length_map] at ly
  refine r_cat (g1.at e0) e1 (small (by simp only [List.length_cons, List.length_nil, List.length_map]; omega)) ?_
  intro p2 H2 g2 e2
  exact q (v :: ys) p2 H2 (g1.trans g2) e2 (by simp) (by simp; omega)
theorem int_at {zs : List Int} {i : Nat} {x : V} (h : (zs.map V.int)[i]? = some x) : ∃ n, x = .int n := by
  obtain ⟨n, _, e⟩ := List.mem_map.mp (List.mem_of_getElem? h)
  exact ⟨n, e.symm⟩
def fv (c : Nat) : Int := if 48 ≤ c ∧ c ≤ 57 then (c : Int) - 48 else if 97 ≤ c ∧ c ≤ 102 then (c : Int) - 87 else -1
theorem find_all : ∀ c ∈ List.range 127, Txt.find "0123456789abcdef" (T [c]) = fv c := by decide +kernel
theorem find_fv {c : Nat} (h : c < 127) : Txt.find "0123456789abcdef" (T [c]) = fv c := find_all c (List.mem_range.mpr h)
def fc (d : Nat) : Nat := (Lt "0123456789abcdef").getD d 0
theorem fc_all : ∀ d ∈ List.range 16, fc d < 127 ∧ fv (fc d) = d ∧ (fc d = 48 → d = 0) := by decide +kernel
theorem fc_ok {d : Nat} (h : d < 16) : fc d < 127 ∧ fv (fc d) = d ∧ (fc d = 48 → d = 0) := fc_all d (List.mem_range.mpr h)
def val (b : Int) (l : List Nat) : Int := l.foldl (fun n c => n * b + fv c) 0
theorem val_app (b : Int) (l : List Nat) (c : Nat) : val b (l ++ [c]) = val b l * b + fv c := by unfold val; rw [List.foldl_append]; rfl
theorem val_noughts (b : Int) (l : List Nat) : ∀ m : Nat, val b (List.replicate m 48 ++ l) = val b l
  | 0 => by simp
  | m + 1 => by
    have ih := val_noughts b l m
    unfold val at ih ⊢
    rw [List.replicate_succ, List.cons_append, List.foldl_cons]
    have : (0 : Int) * b + fv 48 = 0 := by rw [Int.zero_mul]; decide
    rw [this]; exact ih
def FigB (b : Int) (l : List Nat) : Prop := ∀ c ∈ l, c < 127 ∧ 0 ≤ fv c ∧ fv c < b
theorem FigB.mono {b b' : Int} {l : List Nat} (h : FigB b l) (hb : b ≤ b') : FigB b' l := fun c hc => ⟨(h c hc).1, (h c hc).2.1, by have := (h c hc).2.2; omega⟩
theorem FigB.app {b : Int} {l m : List Nat} (h : FigB b l) (h' : FigB b m) : FigB b (l ++ m) := fun c hc => (List.mem_append.mp hc).elim (h c) (h' c)
theorem FigB.noughts {b : Int} (hb : 2 ≤ b) (m : Nat) : FigB b (List.replicate m 48) := fun c hc => by
  rw [List.eq_of_mem_replicate hc]; exact ⟨by decide, by decide, by show (0 : Int) < b; omega⟩
theorem FigB.one {b d : Nat} (hb : b ≤ 16) (h : d < b) : FigB b [fc d] := fun c hc => by
  rw [List.mem_singleton.mp hc]
  have := fc_ok (d := d) (by omega)
  exact ⟨this.1, by omega, by omega⟩
def figs (b n : Nat) : List Nat := if h : n < b ∨ b < 2 then [fc n] else figs b (n / b) ++ [fc (n % b)]
termination_by n
decreasing_by exact Nat.div_lt_self (by omega) (by omega)
theorem figs_lt {b n : Nat} (h : n < b) : figs b n = [fc n] := by rw [figs]; simp [h]
theorem figs_ge {b n : Nat} (h2 : 2 ≤ b) (h : b ≤ n) : figs b n = figs b (n / b) ++ [fc (n % b)] := by rw [figs]; simp [show ¬ n < b by omega, show ¬ b < 2 by omega]
theorem figs_spec {b : Nat} (h2 : 2 ≤ b) (h16 : b ≤ 16) : ∀ (m n : Nat), n ≤ m → FigB b (figs b n) ∧ val b (figs b n) = n ∧ figs b n ≠ [] ∧ ((figs b n).getD 0 0 = 48 → n = 0) := by
  intro m
  induction m with
  | zero =>
    intro n hn
    rw [figs_lt (by omega)]
    have e := fc_ok (d := n) (by omega)
    exact ⟨FigB.one h16 (by omega), by unfold val; simp [e.2.1], by simp, fun _ => by omega⟩
  | succ m ih =>
    intro n hn
    rcases Nat.lt_or_ge n b with h | h
    · rw [figs_lt h]
      have e := fc_ok (d := n) (by omega)
      exact ⟨FigB.one h16 (by omega), by unfold val; simp [e.2.1], by simp, fun q => e.2.2 (by simpa using q)⟩
    · have hd : n / b < n := Nat.div_lt_self (by omega) (by omega)
      obtain ⟨i1, i2, i3, i4⟩ := ih (n / b) (by omega)
      have hm := Nat.mod_lt n (show b > 0 by omega)
      rw [figs_ge h2 h]
      refine ⟨i1.app (FigB.one h16 hm), ?_, by simp, fun q => ?_⟩
      · rw [val_app, i2, (fc_ok (d := n % b) (by omega)).2.1]
        have := Nat.div_add_mod n b
        rw [Nat.mul_comm] at this
        omega
      · rw [getD_app1 (List.length_pos_iff.mpr i3)] at q
        have := i4 q
        have p : 0 < n / b := Nat.div_pos h (by omega)
        omega
theorem figs_len {b : Nat} (h2 : 2 ≤ b) : ∀ (k n : Nat), n < b ^ (k + 1) → (figs b n).length ≤ k + 1
  | 0, n, h => by rw [Nat.pow_one] at h; rw [figs_lt h]; simp
  | k + 1, n, h => by
    rcases Nat.lt_or_ge n b with h' | h'
    · rw [figs_lt h']; simp
    · rw [figs_ge h2 h', List.length_append]
      have := figs_len h2 k (n / b) (Nat.div_lt_of_lt_mul (by rw [Nat.pow_succ, Nat.mul_comm] at h; exact h))
      simp; omega
theorem figs_240 {b n : Nat} (h2 : 2 ≤ b) (h : n < 1766847064778384329583297500742918515827483896875618958121606201292619776) : (figs b n).length ≤ 240 := by
  refine figs_len h2 239 n (Nat.lt_of_lt_of_le h ?_)
  have e : (1766847064778384329583297500742918515827483896875618958121606201292619776 : Nat) = 2 ^ 240 := by decide +kernel
  rw [e]; exact Nat.pow_le_pow_left h2 240
theorem figs_turn {b m : Nat} (h2 : 2 ≤ b) (l : List Nat) : figs b m ++ l = if m / b = 0 then fc (m % b) :: l else figs b (m / b) ++ fc (m % b) :: l := by
  rcases Nat.lt_or_ge m b with h' | h'
  · rw [if_pos (Nat.div_eq_of_lt h'), figs_lt h', Nat.mod_eq_of_lt h']; rfl
  · have p : 0 < m / b := Nat.div_pos h' (by omega)
    rw [if_neg (by omega), figs_ge h2 h', List.append_assoc]; rfl
end L2
set_option Elab.async false
set_option linter.all false
set_option maxRecDepth 100000
set_option maxHeartbeats 400000
namespace L2
open PySem PySem.Spec PyProof.Rows
theorem r_kLstF {H : Hp} {Q : VK} {xs : List V} (hz : xs.length ≤ sizeLine) (h : ∀ p, H p = none → Q (.ref p) (upd H p (.lst xs))) : kLst Q xs H := ⟨hz, h⟩
theorem same_upd {H H' : Hp} {l : Addr} {o : HO} (g : Same H H') (n : H l = none) : Same H (upd H' l o) := fun b u q => by rw [upd_ne (ne_of_none q n)]; exact g b u q
theorem r_bm0 {K : PySem.W.Frag} {σ : St} {H : Hp} {Q : VK} {T : String} {r : V → List V → Hp → VK → Prop} {to : TE} (h : to σ H fun x H1 => tyV K T x H1 ∧ r x [] H1 Q) : tBM0 K T r to σ H Q := h
theorem r_reverse {H : Hp} {Q : VK} {l : Addr} {xs : List V} (h : H l = some (.lst xs)) (q : Q .non (upd H l (.lst xs.reverse))) : rReverse (.ref l) [] H Q := ⟨l, xs, rfl, rfl, h, q⟩
def jn (m : List Nat) : List (List Nat) → List Nat
  | [] => []
  | x :: xs => x ++ (xs.map (m ++ ·)).flatten
theorem glue_fold (m : Str) : ∀ (xs : List (List Nat)) (a : Array Nat), ((xs.map T).foldl (fun acc p => acc ++ m.cps ++ p.cps) a).toList = a.toList ++ (xs.map (Lt m ++ ·)).flatten
  | [], a => by simp
  | x :: xs, a => by
    rw [List.map_cons, List.foldl_cons, glue_fold m xs, List.map_cons, List.flatten_cons]
    simp [T]
theorem join_T (m : Str) (xs : List (List Nat)) : Txt.join m (xs.map T) = T (jn (Lt m) xs) := by
  refine Lt_inj ?_
  rw [Lt_T]
  unfold Txt.join Builtin.Str.glued
  cases xs with
  | nil => rfl
  | cons x xs =>
    show (List.foldl (fun acc p => acc ++ m.cps ++ p.cps) (T x).cps (xs.map T)).toList = _
    rw [glue_fold]; rfl
theorem jn_snoc (m : List Nat) {xs : List (List Nat)} (h : xs ≠ []) (y : List Nat) : jn m (xs ++ [y]) = jn m xs ++ (m ++ y) := by
  cases xs with
  | nil => exact absurd rfl h
  | cons x xs => unfold jn; simp
theorem jn_nil (xs : List (List Nat)) : jn [] xs = xs.flatten := by
  cases xs with
  | nil => rfl
  | cons x xs => unfold jn; simp
theorem joinOk {m : Str} {xs : List (List Nat)} (h : xs.flatten.length + xs.length * (Lt m).length ≤ 16777216) : JoinOk m (xs.map T) = true := by
  have e : ∀ (xs : List (List Nat)) (n : Nat), (xs.map T).foldl (fun x1 x2 => x1 + x2.length + m.length) n = n + xs.flatten.length + xs.length * (Lt m).length := by
    intro xs
    induction xs with
    | nil => intro n; simp
    | cons x xs ih =>
      intro n
      rw [List.map_cons, List.foldl_cons, ih, List.flatten_cons, List.length_append, List.length_cons, Nat.add_mul]
      have e1 : (T x).length = x.length := rfl
      have e2 : m.length = (Lt m).length := rfl
      rw [e1, e2]; omega
  unfold JoinOk Builtin.Str.tooLong
  rw [List.foldl_toArray, e, decide_eq_false (by show ¬ 0 + xs.flatten.length + xs.length * (Lt m).length > 16777216; omega)]
  rfl
def rJoinT (K : PySem.W.Frag) : V → List V → Hp → VK → Prop := fun x vs H Q => ∃ (m : Str) (p : Addr) (xs : List (List Nat)), x = .str m ∧ vs = [.ref p] ∧ H p = some (.lst (xs.map fun l => V.str (T l))) ∧ xs.flatten.length + xs.length * (Lt m).length ≤ 16777216 ∧ Q (.str (T (jn (Lt m) xs))) H
theorem vals_strs : ∀ {xs : List (List Nat)} {us : List Value}, Vals (xs.map fun l => V.str (T l)) us → ∃ ts : List (Str × Tok), us = strValues ts ∧ ts.map (fun x => x.1) = xs.map T
  | [], _, .nil => ⟨[], rfl, rfl⟩
  | x :: xs, _, .cons r t => by
    obtain ⟨ts, rfl, e⟩ := vals_strs t
    obtain ⟨u, rfl⟩ := r
    exact ⟨(T x, u) :: ts, rfl, by rw [List.map_cons, List.map_cons, e]⟩
theorem mt_joinT {X : Cx} : MtR X "str.join" (rJoinT X.K) := by
  intro pins s σ H x vs v us Q I rx rv h
  obtain ⟨m, p, xs, rfl, rfl, hH, hz, q⟩ := h
  obtain ⟨t, rfl⟩ := rx
  obtain ⟨u, rfl, ru⟩ := rv.one
  cases ru
  obtain ⟨its, r, pl, _⟩ := I.list (SqL.of hH)
  obtain ⟨ts, rfl, e⟩ := vals_strs r
  exact SC.join pl.isList e (joinOk hz) fun t' k => ⟨.str _, H, I.tok _, ⟨t', rfl⟩, by rw [join_T]; exact q⟩
theorem r_joinT {K : PySem.W.Frag} {H : Hp} {Q : VK} {m : Str} {p : Addr} {xs : List (List Nat)} (h : H p = some (.lst (xs.map fun l => V.str (T l)))) (hz : xs.flatten.length + xs.length * (Lt m).length ≤ 16777216) (q : Q (.str (T (jn (Lt m) xs))) H) : rJoinT K (.str m) [.ref p] H Q := ⟨m, p, xs, rfl, rfl, h, hz, q⟩
def pcs (a : List Nat) (z g e : Nat) : List (List Nat) := if h : e = 0 ∨ z = 0 then [] else pcs a z g (e - z - g) ++ [(a.take e).drop (e - z)]
termination_by e
decreasing_by omega
theorem pcs_zero (a : List Nat) (z g : Nat) : pcs a z g 0 = [] := by rw [pcs]; simp
theorem pcs_pos {a : List Nat} {z g e : Nat} (hz : 0 < z) (h : 0 < e) : pcs a z g e = pcs a z g (e - z - g) ++ [(a.take e).drop (e - z)] := by
  rw [pcs]; rw [dif_neg (by omega)]
theorem pcs_bd {a : List Nat} {z g : Nat} (hz : 0 < z) : ∀ (m e : Nat), e ≤ m → (pcs a z g e).flatten.length ≤ e ∧ (pcs a z g e).length ≤ e
  | 0, e, h => by rw [show e = 0 by omega, pcs_zero]; simp
  | m + 1, e, h => by
    rcases Nat.eq_zero_or_pos e with p | p
    · rw [p, pcs_zero]; simp
    · obtain ⟨i1, i2⟩ := pcs_bd (a := a) (g := g) hz m (e - z - g) (by omega)
      rw [pcs_pos hz p]
      simp only [List.flatten_append, List.length_append, List.flatten_cons, List.flatten_nil, List.append_nil, List.length_drop, List.length_take, List.length_cons, List.length_nil]
      omega
def RJ (z m : Nat) (b : List Nat) : List Nat := if h : b.length ≤ z ∨ z = 0 then b else b.take z ++ m :: RJ z m (b.drop z)
termination_by b.length
decreasing_by rw [List.length_drop]; omega
theorem RJ_le {z m : Nat} {b : List Nat} (h : b.length ≤ z) : RJ z m b = b := by rw [RJ]; simp [h]
theorem RJ_zero {m : Nat} {b : List Nat} : RJ 0 m b = b := by rw [RJ]; simp
theorem RJ_gt {z m : Nat} {b : List Nat} (hz : 0 < z) (h : z < b.length) : RJ z m b = b.take z ++ m :: RJ z m (b.drop z) := by
  rw [RJ]; rw [dif_neg (by omega)]
theorem RJ_len {z m : Nat} : ∀ (k : Nat) (b : List Nat), b.length ≤ k → b.length ≤ (RJ z m b).length ∧ (RJ z m b).length ≤ 2 * b.length
  | 0, b, h => by rw [RJ_le (by omega)]; omega
  | k + 1, b, h => by
    rcases Nat.eq_zero_or_pos z with p | p
    · subst p; rw [RJ_zero]; omega
    · rcases Nat.lt_or_ge z b.length with q | q
      · have ih := RJ_len (z := z) (m := m) k (b.drop z) (by rw [List.length_drop]; omega)
        rw [List.length_drop] at ih
        rw [RJ_gt p q, List.length_append, List.length_take, List.length_cons]
        omega
      · rw [RJ_le q]; omega
theorem jn_pcs {a : List Nat} {z m : Nat} (hz : 0 < z) : ∀ (k e : Nat), e ≤ k → e ≤ a.length → (jn [m] (pcs a z 0 e)).reverse = RJ z m (a.take e).reverse
  | 0, e, h, _ => by rw [show e = 0 by omega, pcs_zero, RJ_le (by simp)]; simp [jn]
  | k + 1, e, h, ha => by
    rcases Nat.eq_zero_or_pos e with p | p
    · rw [p, pcs_zero, RJ_le (by simp)]; simp [jn]
    · rw [pcs_pos hz p, Nat.sub_zero]
      have le : (a.take e).length = e := by rw [List.length_take]; omega
      rcases Nat.lt_or_ge z e with q | q
      · have ih := jn_pcs (a := a) (m := m) hz k (e - z) (by omega) (by omega)
        have ne : pcs a z 0 (e - z) ≠ [] := by rw [pcs_pos hz (by omega)]; simp
        rw [jn_snoc _ ne, List.reverse_append, List.reverse_append, ih, RJ_gt (b := (a.take e).reverse) hz (by rw [List.length_reverse]; omega), List.take_reverse, List.drop_reverse, le]
        rw [List.take_take, Nat.min_eq_left (show e - z ≤ e by omega)]
        simp
      · rw [show e - z = 0 by omega, pcs_zero, RJ_le (by rw [List.length_reverse]; omega)]
        simp [jn]
def gr (z m : Nat) (a : List Nat) : List Nat := (RJ z m a.reverse).reverse
theorem gr_jn {a : List Nat} {z m : Nat} (hz : 0 < z) : jn [m] (pcs a z 0 a.length) = gr z m a := by
  have := jn_pcs (m := m) hz a.length a.length (Nat.le_refl _) (Nat.le_refl _)
  rw [List.take_length] at this
  unfold gr
  rw [← this, List.reverse_reverse]
theorem gr_len {a : List Nat} {z m : Nat} : a.length ≤ (gr z m a).length ∧ (gr z m a).length ≤ 2 * a.length := by
  have := RJ_len (z := z) (m := m) a.reverse.length a.reverse (Nat.le_refl _)
  unfold gr; rw [List.length_reverse] at this ⊢; exact this
def UJ (z : Nat) (c : List Nat) : List Nat := if h : c.length = 0 ∨ z = 0 then [] else c.take z ++ UJ z (c.drop (z + 1))
termination_by c.length
decreasing_by rw [List.length_drop]; omega
theorem UJ_nil {z : Nat} : UJ z [] = [] := by rw [UJ]; simp
theorem UJ_pos {z : Nat} {c : List Nat} (hz : 0 < z) (h : 0 < c.length) : UJ z c = c.take z ++ UJ z (c.drop (z + 1)) := by rw [UJ]; rw [dif_neg (by omega)]
theorem fl_pcs {a : List Nat} {z : Nat} (hz : 0 < z) : ∀ (k e : Nat), e ≤ k → e ≤ a.length → (pcs a z 1 e).flatten.reverse = UJ z (a.take e).reverse
  | 0, e, h, _ => by rw [show e = 0 by omega, pcs_zero]; simp [UJ_nil]
  | k + 1, e, h, ha => by
    rcases Nat.eq_zero_or_pos e with p | p
    · rw [p, pcs_zero]; simp [UJ_nil]
    · have le : (a.take e).length = e := by rw [List.length_take]; omega
      have ih := fl_pcs (a := a) hz k (e - z - 1) (by omega) (by omega)
      rw [pcs_pos hz p, List.flatten_append, List.reverse_append, ih, UJ_pos (c := (a.take e).reverse) hz (by rw [List.length_reverse]; omega), List.take_reverse, List.drop_reverse, le, List.take_take, Nat.min_eq_left (show e - (z + 1) ≤ e by omega)]
      simp
      rw [show e - (z + 1) = e - z - 1 by omega]
def ug (z : Nat) (a : List Nat) : List Nat := if z = 0 then a else (UJ z a.reverse).reverse
theorem ug_fl {a : List Nat} {z : Nat} (hz : 0 < z) : (pcs a z 1 a.length).flatten = ug z a := by
  have := fl_pcs hz a.length a.length (Nat.le_refl _) (Nat.le_refl _)
  rw [List.take_length] at this
  unfold ug
  rw [if_neg (by omega), ← this, List.reverse_reverse]
theorem gr_zero {m : Nat} {a : List Nat} : gr 0 m a = a := by unfold gr; rw [RJ_zero, List.reverse_reverse]
end L2
namespace L2
open PySem PySem.Spec PyProof.Rows
end L2
set_option Elab.async false
set_option linter.all false
set_option maxRecDepth 100000
set_option maxHeartbeats 400000
namespace L2
open PySem PySem.Spec PyProof.Rows
section
variable {X : Cx} {H : Hp} {Q : VK} {K : PySem.W.Frag}
def rIsN : R2 := fun x y H Q => y = .non ∧ Q (.bl (decide (x = .non))) H
theorem op_isN2 : OpR X (compareOp .Is) rIsN := op_isN
theorem r_isNN (q : Q (.bl true) H) : rIsN .non .non H Q := ⟨rfl, by rw [decide_eq_true rfl]; exact q⟩
theorem r_isNI {i : Int} (q : Q (.bl false) H) : rIsN (.int i) .non H Q := ⟨rfl, by rw [decide_eq_false (fun z => nomatch z)]; exact q⟩
inductive NT (H : Hp) : V → Prop where
  | int (i : Int) : NT H (.int i)
  | non : NT H .non
  | bl (b : Bool) : NT H (.bl b)
  | lst {p : Addr} {xs : List V} (e : H p = some (.lst xs)) : NT H (.ref p)
  | tup {p : Addr} {xs : List V} (e : H p = some (.tup xs)) : NT H (.ref p)
  | dct {p : Addr} (e : H p = some (dctO p)) : NT H (.ref p)
theorem NT.same {H H' : Hp} {v : V} (h : NT H v) (g : Same H H') : NT H' v := by
  cases h with
  | int i => exact .int i
  | non => exact .non
  | bl b => exact .bl b
  | lst e => exact .lst (g _ _ e)
  | tup e => exact .tup (g _ _ e)
  | dct e => exact .dct (g _ _ e)
def Asc (l : List Nat) : Prop := ∀ c ∈ l, c < 127
theorem Asc.nil : Asc [] := fun _ h => nomatch h
theorem Asc.app {l m : List Nat} (h : Asc l) (h' : Asc m) : Asc (l ++ m) := fun c hc => (List.mem_append.mp hc).elim (h c) (h' c)
theorem Asc.one {c : Nat} (h : c < 127) : Asc [c] := fun d hd => by rw [List.mem_singleton.mp hd]; exact h
theorem Asc.take {l : List Nat} (h : Asc l) (n : Nat) : Asc (l.take n) := fun c hc => h c (List.mem_of_mem_take hc)
theorem Asc.drop {l : List Nat} (h : Asc l) (n : Nat) : Asc (l.drop n) := fun c hc => h c (List.mem_of_mem_drop hc)
theorem FigB.snoc {b : Int} {l : List Nat} {i c : Nat} (h : FigB b (l.take i)) (hi : l[i]? = some c) (h1 : c < 127) (h2 : 0 ≤ fv c) (h3 : fv c < b) : FigB b (l.take (i + 1)) := by
  rw [List.take_succ, hi]
  refine h.app fun d hd => ?_
  rw [List.mem_singleton.mp hd]; exact ⟨h1, h2, h3⟩
end
end L2
namespace L2
open PySem PySem.Spec PyProof.Rows
theorem pe_strT {X : Cx} {x : Str} {l : List Nat} {j : Nat} {pos : Pos} (e : x = T l) : PE X (.Constant (.str x) j pos) (tC (.str (T l))) := by
  rw [← e]; exact pe_str
end L2
set_option Elab.async false
set_option linter.all false
set_option maxRecDepth 100000
set_option maxHeartbeats 400000
namespace L2
open PySem PySem.Spec PyProof.Rows
theorem UJ_snoc {z x : Nat} (hz : 0 < z) : ∀ (k : Nat) (c : List Nat), c.length ≤ k → UJ z (c ++ [x]) = UJ z c ++ (if c.length % (z + 1) = z then [] else [x])
  | 0, c, h => by
    have e : c = [] := List.eq_nil_of_length_eq_zero (by omega)
    subst e
    rw [UJ_pos hz (by simp), UJ_nil, if_neg (by simp; omega), List.nil_append, List.take_of_length_le (by simp; omega), List.drop_of_length_le (by simp), UJ_nil]; simp
  | k + 1, c, h => by
    rcases Nat.eq_zero_or_pos c.length with p0 | p0
    · have e : c = [] := List.eq_nil_of_length_eq_zero p0
      subst e
      rw [UJ_pos hz (by simp), UJ_nil, if_neg (by simp; omega), List.nil_append, List.take_of_length_le (by simp; omega), List.drop_of_length_le (by simp), UJ_nil]; simp
    rw [UJ_pos hz (by simp), UJ_pos hz p0]
    rcases Nat.lt_trichotomy c.length z with p | p | p
    · rw [List.take_of_length_le (by simp; omega), List.take_of_length_le (by omega), List.drop_of_length_le (by simp; omega), List.drop_of_length_le (by omega), UJ_nil, if_neg (by rw [Nat.mod_eq_of_lt (by omega)]; omega)]; simp
    · rw [List.take_append_of_le_length (by omega), List.drop_of_length_le (by simp; omega), List.drop_of_length_le (by omega), UJ_nil, if_pos (by rw [Nat.mod_eq_of_lt (by omega)]; exact p)]; simp
    · rw [List.take_append_of_le_length (by omega), List.drop_append_of_le_length (by omega), UJ_snoc hz k (c.drop (z + 1)) (by rw [List.length_drop]; omega), List.length_drop, ← Nat.mod_eq_sub_mod (by omega), List.append_assoc]
theorem ug_turn {z k : Nat} {t : List Nat} (hk : k < t.length) : ug z (t.drop k) = (if 0 < z ∧ (t.length - 1 - k) % (z + 1) = z then [] else [t.getD k 0]) ++ ug z (t.drop (k + 1)) := by
  have e : t.drop k = t.getD k 0 :: t.drop (k + 1) := by
    rw [List.drop_eq_getElem_cons hk, List.getD_eq_getElem?_getD, List.getElem?_eq_getElem hk]; rfl
  have lk : (t.drop (k + 1)).length = t.length - 1 - k := by rw [List.length_drop]; omega
  unfold ug
  rcases Nat.eq_zero_or_pos z with p | p
  · subst p; rw [if_pos rfl, if_pos rfl, if_neg (by omega), e]; rfl
  · simp only [if_neg (show ¬ z = 0 by omega)]
    rw [e, List.reverse_cons, UJ_snoc p _ _ (Nat.le_refl _), List.length_reverse, lk]
    by_cases q : (t.length - 1 - k) % (z + 1) = z
    · rw [if_pos q, if_pos ⟨p, q⟩]; simp
    · rw [if_neg q, if_neg (fun h => q h.2)]; simp
theorem RJ_length {z m : Nat} (hz : 0 < z) : ∀ (k : Nat) (b : List Nat), b.length ≤ k → 1 ≤ b.length → (RJ z m b).length = b.length + (b.length - 1) / z
  | 0, b, h, h1 => by omega
  | k + 1, b, h, h1 => by
    rcases Nat.lt_or_ge z b.length with q | q
    · have ih := RJ_length (m := m) hz k (b.drop z) (by rw [List.length_drop]; omega) (by rw [List.length_drop]; omega)
      rw [List.length_drop] at ih
      rw [RJ_gt hz q, List.length_append, List.length_take, List.length_cons, ih]
      have e : (b.length - 1) / z = (b.length - z - 1) / z + 1 := by
        rw [Nat.div_eq_sub_div hz (by omega), show b.length - 1 - z = b.length - z - 1 by omega]
      omega
    · rw [RJ_le q, Nat.div_eq_of_lt (by omega)]; omega
theorem RJ_marks {z m : Nat} (hz : 0 < z) : ∀ (k : Nat) (b : List Nat), b.length ≤ k → ∀ j, j < (RJ z m b).length → j % (z + 1) = z → (RJ z m b).getD j 0 = m
  | 0, b, h, j, hj, he => by rw [RJ_le (by omega)] at hj; omega
  | k + 1, b, h, j, hj, he => by
    rcases Nat.lt_or_ge z b.length with q | q
    · rw [RJ_gt hz q] at hj ⊢
      have l1 : (b.take z).length = z := by rw [List.length_take]; omega
      rw [List.length_append, List.length_cons, l1] at hj
      rcases Nat.lt_trichotomy j z with p | p | p
      · rw [Nat.mod_eq_of_lt (by omega)] at he; omega
      · rw [getD_app2 (by omega), l1, p, Nat.sub_self]; rfl
      · rw [getD_app2 (by omega), l1, show j - z = (j - (z + 1)) + 1 by omega]
        show (RJ z m (b.drop z)).getD (j - (z + 1)) 0 = m
        exact RJ_marks hz k _ (by rw [List.length_drop]; omega) _ (by omega) (by rw [← Nat.mod_eq_sub_mod (by omega)]; exact he)
    · rw [RJ_le q] at hj
      rw [Nat.mod_eq_of_lt (by omega)] at he; omega
theorem UJ_pos_len {z : Nat} {c : List Nat} (hz : 0 < z) (h : 0 < c.length) : 0 < (UJ z c).length := by
  rw [UJ_pos hz h, List.length_append, List.length_take]; omega
theorem RJ_UJ {z m : Nat} (hz : 0 < z) : ∀ (k : Nat) (c : List Nat), c.length ≤ k → c.length % (z + 1) ≠ 0 → (∀ j, j < c.length → j % (z + 1) = z → c.getD j 0 = m) → RJ z m (UJ z c) = c
  | 0, c, h, h0, _ => by rw [show c.length = 0 by omega] at h0; simp at h0
  | k + 1, c, h, h0, hm => by
    have p0 : 0 < c.length := by
      rcases Nat.eq_zero_or_pos c.length with p | p
      · rw [p] at h0; simp at h0
      · exact p
    rcases Nat.lt_trichotomy c.length (z + 1) with q | q | q
    · rw [UJ_pos hz p0, List.take_of_length_le (by omega), List.drop_of_length_le (by omega), UJ_nil, List.append_nil, RJ_le (by omega)]
    · rw [q, Nat.mod_self] at h0; exact absurd rfl h0
    · have l1 : (c.take z).length = z := by rw [List.length_take]; omega
      have l2 : (c.drop (z + 1)).length = c.length - (z + 1) := List.length_drop ..
      have ih := RJ_UJ (m := m) hz k (c.drop (z + 1)) (by omega) (by rw [l2, ← Nat.mod_eq_sub_mod (by omega)]; exact h0) (fun j hj he => by
        have z1 := hm (z + 1 + j) (by omega) (by rw [Nat.add_mod_left]; exact he)
        rw [List.getD_eq_getElem?_getD] at z1 ⊢
        rw [List.getElem?_drop]; exact z1)
      have up := UJ_pos_len (c := c.drop (z + 1)) hz (by omega)
      rw [UJ_pos hz p0, RJ_gt hz (by rw [List.length_append, l1]; omega), List.take_append_of_le_length (by omega), List.take_of_length_le (by omega), List.drop_append_of_le_length (by omega), List.drop_of_length_le (by omega), List.nil_append, ih]
      have cz := hm z (by omega) (Nat.mod_eq_of_lt (by omega))
      rw [List.getD_eq_getElem?_getD, List.getElem?_eq_getElem (by omega)] at cz
      have cz' : c[z] = m := cz
      rw [← cz', ← List.drop_eq_getElem_cons, List.take_append_drop]
def GG (z m : Nat) (t : List Nat) : Prop := 1 ≤ (ug z t).length ∧ (ug z t).length ≤ 40 ∧ gr z m (ug z t) = t
theorem GG.len {z m : Nat} {t : List Nat} (h : GG z m t) : (ug z t).length + (if 0 < z then ((ug z t).length - 1) / z else 0) = t.length := by
  have e := congrArg List.length h.2.2
  rcases Nat.eq_zero_or_pos z with p | p
  · subst p; rw [gr_zero] at e; simp; exact e
  · unfold gr at e
    rw [List.length_reverse, RJ_length p _ _ (Nat.le_refl _) (by rw [List.length_reverse]; exact h.1), List.length_reverse] at e
    rw [if_pos p]; exact e
theorem getD_rev {l : List Nat} {j : Nat} (h : j < l.length) : l.reverse.getD j 0 = l.getD (l.length - 1 - j) 0 := by
  rw [List.getD_eq_getElem?_getD, List.getD_eq_getElem?_getD, List.getElem?_reverse h]
theorem GG.marks {z m : Nat} {t : List Nat} (h : GG z m t) (hz : 0 < z) {k : Nat} (hk : k < t.length) (he : (t.length - 1 - k) % (z + 1) = z) : t.getD k 0 = m := by
  have e := h.2.2
  unfold gr at e
  have e2 : RJ z m (ug z t).reverse = t.reverse := by rw [← e, List.reverse_reverse, e]
  have q := RJ_marks (m := m) hz _ (ug z t).reverse (Nat.le_refl _) (t.length - 1 - k) (by rw [e2, List.length_reverse]; omega) he
  rw [e2, getD_rev (by omega)] at q
  rw [show t.length - 1 - (t.length - 1 - k) = k by omega] at q
  exact q
theorem many_inj {z a b : Nat} (h1 : 1 ≤ a) (h2 : 1 ≤ b) (h : a + (a - 1) / z = b + (b - 1) / z) : a = b := by
  rcases Nat.lt_trichotomy a b with p | p | p
  · have := Nat.div_le_div_right (c := z) (show a - 1 ≤ b - 1 by omega); omega
  · exact p
  · have := Nat.div_le_div_right (c := z) (show b - 1 ≤ a - 1 by omega); omega
theorem GG.of {z m many : Nat} {t : List Nat} (h1 : 1 ≤ many) (h2 : many ≤ 40) (hl : many + (if 0 < z then (many - 1) / z else 0) = t.length) (hm : 0 < z → ∀ k, k < t.length → (t.length - 1 - k) % (z + 1) = z → t.getD k 0 = m) : GG z m t := by
  rcases Nat.eq_zero_or_pos z with p | p
  · subst p
    have e : ug 0 t = t := rfl
    unfold GG; rw [e, gr_zero]; simp at hl; exact ⟨by omega, by omega, rfl⟩
  · rw [if_pos p] at hl
    have hn : t.length % (z + 1) ≠ 0 := by
      have d := Nat.div_add_mod (many - 1) z
      have r := Nat.mod_lt (many - 1) p
      generalize (many - 1) / z = q at *
      generalize (many - 1) % z = r' at *
      have e : t.length = r' + 1 + (z + 1) * q := by rw [Nat.add_mul, Nat.one_mul]; omega
      rw [e, Nat.add_mul_mod_self_left, Nat.mod_eq_of_lt (by omega)]; omega
    have rj := RJ_UJ (m := m) p _ t.reverse (Nat.le_refl _) (by rw [List.length_reverse]; exact hn) (fun j hj he => by
      rw [List.length_reverse] at hj
      rw [getD_rev hj]
      exact hm p _ (by omega) (by rw [show t.length - 1 - (t.length - 1 - j) = j by omega]; exact he))
    have e : ug z t = (UJ z t.reverse).reverse := by unfold ug; rw [if_neg (by omega)]
    have tp : 0 < t.length := Nat.lt_of_lt_of_le (show 0 < many by omega) (by rw [← hl]; exact Nat.le_add_right _ _)
    have up := UJ_pos_len (c := t.reverse) p (by rw [List.length_reverse]; exact tp)
    have ln := RJ_length (m := m) p _ (UJ z t.reverse) (Nat.le_refl _) up
    rw [rj, List.length_reverse] at ln
    have em := many_inj (z := z) (a := (UJ z t.reverse).length) (b := many) up h1 (by omega)
    refine ⟨by rw [e, List.length_reverse]; omega, by rw [e, List.length_reverse]; omega, ?_⟩
    rw [e]; unfold gr; rw [List.reverse_reverse, rj, List.reverse_reverse]
theorem ug_len {z : Nat} {t : List Nat} : (ug z t).length ≤ t.length := by
  rcases Nat.eq_zero_or_pos z with p | p
  · subst p; exact Nat.le_refl _
  · rw [← ug_fl p]; exact (pcs_bd p _ _ (Nat.le_refl _)).1
end L2
namespace L2
open PySem PySem.Spec PyProof.Rows
section
variable {σ : St} {H : Hp} {Q : VK} {D : Ends} {K : PySem.W.Frag}
def kForR2 (g : TG) (tb : TS) (D : Ends) (σ : St) (vs : List V) (H : Hp) : Prop := ∃ i j : Int, vs = [.int i, .int j] ∧ (-(2 ^ 62) ≤ i ∧ i < 2 ^ 62 ∧ -(2 ^ 62) ≤ j ∧ j < 2 ^ 62) ∧ ∃ W : Nat → Nat → St → Hp → Prop, (∃ m, W 0 m σ H) ∧ ∀ k m σ H, W k m σ H →
  ((Itr i (j - i).toNat).stop k H ∧ D.nx σ H) ∨ ((Itr i (j - i).toNat).go k H ∧ ∃ N : St → Hp → Prop, (∀ σ' H', N σ' H' → ∃ m', m' < m ∧ W (k + 1) m' σ' H') ∧ ∀ x H', (Itr i (j - i).toNat).yld k H x H' → g x σ H' fun σ2 H2 => tb { D with nx := N, ct := N, bk := D.nx } σ2 H2)
end
end L2
set_option Elab.async false
set_option linter.all false
set_option maxRecDepth 100000
set_option maxHeartbeats 400000
namespace L2
open PySem PySem.Spec PyProof.Rows
def KD (w : World) (K : PySem.W.Frag) (d : Addr) (z : Str) (v : Addr) : Prop := ∃ (es : Array DictEntry) (n : Nat), K.lookup d = some { cls := .type "dict", data := .dict es n } ∧ (∀ e, e ∈ es → ∃ k, Value.isStrOf k e.key = true ∧ e.hash = hashStr w k) ∧ findBy Value.isStrOf es z = some (.ref v)
def rIxD (w : World) (K : PySem.W.Frag) : R2 := fun x y H Q => ∃ d z v, x = .ref d ∧ y = .str z ∧ KD w K d z v ∧ Q (.ref v) H
section
variable {X : Cx} {H : Hp} {Q : VK} {K : PySem.W.Frag} {w : World}
theorem SqT.same {H H' : Hp} {p : Addr} {xs : List V} (h : SqT K H p xs) (e : Same H H') : SqT K H' p xs := by
  rcases h with h | h
  · rcases h with h | ⟨o, h⟩
    · exact .inl (.inl (e _ _ h))
    · exact .inl (.inr ⟨o, e _ _ h⟩)
  · exact .inr h
def rIsiQ (K : PySem.W.Frag) : List V → Hp → VK → Prop := fun vs H Q => ∃ (p : Addr) (xs : List V) (T : String) (b : Bool), vs = [.ref p, .ty T] ∧ SqT K H p xs ∧ PySem.W.kitOne K (.type "tuple") (.type T) = some b ∧ Q (.bl b) H
def rNeT (K : PySem.W.Frag) : R2 := fun x y H Q => ∃ p q xs ys, x = .ref p ∧ y = .ref q ∧ SqT K H p xs ∧ SqT K H q ys ∧ xs.all flatV = true ∧ ys.all flatV = true ∧ Q (.bl (!eqVs xs ys)) H
theorem SqT.mod {p : Addr} {xs : List V} {its : List Value} {n : Nat} (lk : K.lookup p = some { cls := .type "tuple", data := .seq its.toArray n }) (hz : its.length ≤ 1000) (r : Vals xs its) : SqT K H p xs := .inr ⟨_, its.toArray, n, lk, rfl, rfl, small (by simpa using hz), by simpa using r⟩
end
def stL (x : Str) (b : Bool) : List Nat := if x = "minus" then (if b then [45] else []) else if x = "plus" then (if b then [45] else [43]) else if x = "blank" then (if b then [45] else [32]) else if x = "brackets" then (if b then [40] else []) else []
def stT (x : Str) (b : Bool) : List Nat := if x = "minus" then [] else if x = "plus" then [] else if x = "blank" then [] else if x = "brackets" then (if b then [41] else []) else (if b then [45] else [])
def Style (x : Str) : Prop := x = "minus" ∨ x = "plus" ∨ x = "blank" ∨ x = "brackets" ∨ x = "behind"
def Sty (w : World) (K : PySem.W.Frag) (d : Addr) : Prop := ∀ (x : Str), Style x → ∃ p a b : Addr, KD w K d x p ∧ ∀ H : Hp, SqT K H p [.ref a, .ref b] ∧ SqT K H a [.str (T (stL x false)), .str (T (stT x false))] ∧ SqT K H b [.str (T (stL x true)), .str (T (stT x true))]
end L2
namespace L2
open PySem PySem.Spec PyProof.Rows
end L2
set_option Elab.async false
set_option linter.all false
set_option maxRecDepth 100000
set_option maxHeartbeats 400000
namespace L2
open PySem PySem.Spec PyProof.Rows
def MapAt (P : Program) (w : World) (p : Addr) (kvs : List (Str × V)) (h : Heap) : Prop := ∃ us : List (Str × Value), Heap.DictOf (PySem.strKind P w) h p us ∧ us.map Prod.fst = kvs.map Prod.fst ∧ Vals (kvs.map Prod.snd) (us.map Prod.snd)
def mapO (P : Program) (w : World) (p : Addr) (kvs : List (Str × V)) : HO := .ext (MapAt P w p kvs)
section
variable {X : Cx} {H : Hp} {Q : VK} {K : PySem.W.Frag} {σ : St}
def PM (X : Cx) (pos : Pos) (keys : List (Option Expr)) (values : List Expr) (ks : List Str) (t : TA) : Prop :=
  ∀ (pins : List (Addr × Obj)) (s : Shared) (σ : St) (H : Hp) (R : List V → Hp → Prop), Inv X pins σ H s → t σ H R →
    wpAny (model X.prog X.w) X.A (evalPairs (pairTrees keys values X.env pos)) (fun ws s2 => ∃ vs H2, Inv X pins σ H2 s2 ∧ (∃ us : List (Str × Value), Carries (PySem.strKind X.prog X.w) ws us ∧ us.map Prod.fst = ks ∧ Vals vs (us.map Prod.snd)) ∧ R vs H2) X.xe s
def tMap (P : Program) (w : World) (ks : List Str) (t : TA) : TE := fun σ H Q => ∀ p H0, H p = none → Same H H0 → H0 p = some (mapO P w p []) → t σ H0 fun vs H1 => H1 p = some (mapO P w p []) ∧ vs.length = ks.length ∧ ∀ H2, SB p H1 H2 → H2 p = some (mapO P w p (ks.zip vs)) → Q (.ref p) H2
def lookV (kvs : List (Str × V)) (z : Str) : Option V := (kvs.find? fun kv => decide (kv.1 = z)).map Prod.snd
def rIxM (P : Program) (w : World) : R2 := fun x y H Q => ∃ p z kvs v, x = .ref p ∧ y = .str z ∧ H p = some (mapO P w p kvs) ∧ lookV kvs z = some v ∧ Q v H
end
end L2
set_option Elab.async false
set_option linter.all false
set_option maxRecDepth 100000
set_option maxHeartbeats 400000
namespace L2
open PySem PySem.Spec PyProof.Rows
section
variable {X : Cx} {σ : St} {H : Hp} {Q : VK} {D : Ends} {K : PySem.W.Frag}
def kForT (K : PySem.W.Frag) (g : TG) (tb : TS) (D : Ends) (σ : St) (x : V) (H : Hp) : Prop := ∃ a, x = .ref a ∧ (∃ xs, SqT K H a xs) ∧ ∃ W : Nat → Nat → St → Hp → Prop, (∃ m, W 0 m σ H) ∧ ∀ i m σ H, W i m σ H →
  ((Itt K a).stop i H ∧ D.nx σ H) ∨ ((Itt K a).go i H ∧ ∃ N : St → Hp → Prop, (∀ σ' H', N σ' H' → ∃ m', m' < m ∧ W (i + 1) m' σ' H') ∧ ∀ x H', (Itt K a).yld i H x H' → g x σ H' fun σ2 H2 => tb { D with nx := N, ct := N, bk := D.nx } σ2 H2)
def rEqNil (K : PySem.W.Frag) : R2 := fun x y H Q => ∃ p q xs, x = .ref p ∧ y = .ref q ∧ SqL K H p xs ∧ SqL K H q [] ∧ Q (.bl (decide (xs = []))) H
end
def bod (x : Str) (b : Bool) (t : List Nat) : List Nat := (t.take (t.length - (stT x b).length)).drop (stL x b).length
def Fg (l : List Nat) : Prop := l ≠ [] ∧ 0 ≤ fv (l.getD 0 0) ∧ 0 ≤ fv (l.getD (l.length - 1) 0)
def Sgd (x : Str) (b : Bool) (t : List Nat) : Prop := Fg (bod x b t) ∧ stL x b ++ bod x b t ++ stT x b = t
theorem getD_asc {t : List Nat} {i : Nat} (h : Asc t) (hi : i < t.length) : t.getD i 0 < 127 := by
  rw [List.getD_eq_getElem?_getD, List.getElem?_eq_getElem hi]; exact h _ (List.getElem_mem hi)
end L2
namespace L2
open PySem PySem.Spec PyProof.Rows
end L2
namespace L2
open PySem PySem.Spec PyProof.Rows
end L2
set_option Elab.async false
set_option linter.all false
set_option maxRecDepth 100000
set_option maxHeartbeats 400000
namespace L2
open PySem PySem.Spec PyProof.Rows
section
variable {X : Cx} {H : Hp} {Q : VK} {K : PySem.W.Frag} {σ : St}
def rRjT : V → List V → Hp → VK → Prop := fun x vs H Q => ∃ (a : List Nat) (i : Int) (c : Nat), x = .str (T a) ∧ vs = [.int i, .str (T [c])] ∧ 0 ≤ i ∧ i ≤ 1000 ∧ Q (.str (T (List.replicate (i.toNat - a.length) c ++ a))) H
theorem mt_rjustT : MtR X "str.rjust" rRjT := by
  intro pins s σ H x vs v us Q I rx rv h
  obtain ⟨a, i, c, rfl, rfl, h0, h1, q⟩ := h
  obtain ⟨t, rfl⟩ := rx
  obtain ⟨u1, u2, rfl, r1, r2⟩ := vals2 rv
  obtain ⟨t1, rfl⟩ := r1
  obtain ⟨t2, rfl⟩ := r2
  have pk : PadOk i = true := by
    unfold PadOk Builtin.Str.tooLong fitsSsize
    have : ¬ i.toNat > sizeLine := by show ¬ i.toNat > 16777216; omega
    rw [decide_eq_false this]
    simp
    omega
  refine rjust_fill pk rfl fun t' k => ⟨.str _, H, I.tok _, ⟨t', rfl⟩, ?_⟩
  have e : Txt.rjustF (T a) i ((T [c]).cps.getD 0 0) = T (List.replicate (i.toNat - a.length) c ++ a) := Lt_inj (rjustF_list (T a) i c)
  rw [e]; exact q
theorem r_rjT {a : List Nat} {i : Int} {c : Nat} (h0 : 0 ≤ i) (h1 : i ≤ 1000) (q : Q (.str (T (List.replicate (i.toNat - a.length) c ++ a))) H) : rRjT (.str (T a)) [.int i, .str (T [c])] H Q := ⟨a, i, c, rfl, rfl, h0, h1, q⟩
end
def dgs (b p n : Nat) : List Nat := List.replicate (p + 1 - (figs b n).length) 48 ++ figs b n
def dF (b least k : Nat) (l : List Nat) : List Nat := if k = 0 then List.replicate (least - l.length) 48 ++ l else List.replicate (least - (figs b k).length - l.length) 48 ++ (figs b k ++ l)
theorem dgs_spec {b p n : Nat} (h2 : 2 ≤ b) (h16 : b ≤ 16) (hp : p ≤ 6) (h : n < b ^ (40 + p)) : FigB b (dgs b p n) ∧ val b (dgs b p n) = n ∧ p + 1 ≤ (dgs b p n).length ∧ (dgs b p n).length ≤ 40 + p ∧ ((dgs b p n).getD 0 0 = 48 → (dgs b p n).length = p + 1) := by
  have s := figs_spec h2 h16 n n (Nat.le_refl _)
  have ln := figs_len h2 (39 + p) n (by rw [show 39 + p + 1 = 40 + p by omega]; exact h)
  have ps := List.length_pos_iff.mpr s.2.2.1
  have ld : (dgs b p n).length = p + 1 - (figs b n).length + (figs b n).length := by unfold dgs; rw [List.length_append, List.length_replicate]
  refine ⟨(FigB.noughts (by omega) _).app s.1, ?_, by omega, by omega, fun z => ?_⟩
  · unfold dgs; rw [val_noughts]; exact s.2.1
  · rcases Nat.lt_or_ge (p + 1) (figs b n).length with q | q
    · have e : dgs b p n = figs b n := by unfold dgs; rw [show p + 1 - (figs b n).length = 0 by omega]; rfl
      rw [e] at z
      have := s.2.2.2 z
      subst this
      rw [figs_lt (by omega)] at q
      simp at q
    · omega
def whl (b p n : Nat) : List Nat := (dgs b p n).take ((dgs b p n).length - p)
def rst (b p n : Nat) : List Nat := (dgs b p n).drop ((dgs b p n).length - p)
def bdy (b p pt z m n : Nat) : List Nat := if p = 0 then gr z m (whl b p n) else gr z m (whl b p n) ++ [pt] ++ rst b p n
theorem whl_rst (b p n : Nat) : whl b p n ++ rst b p n = dgs b p n := List.take_append_drop _ _
theorem whl_spec {b p n : Nat} (h2 : 2 ≤ b) (h16 : b ≤ 16) (hp : p ≤ 6) (h : n < b ^ (40 + p)) : 1 ≤ (whl b p n).length ∧ (whl b p n).length ≤ 40 ∧ (rst b p n).length = p ∧ ((whl b p n).getD 0 0 = 48 → (whl b p n).length = 1) := by
  have s := dgs_spec h2 h16 hp h
  have lw : (whl b p n).length = (dgs b p n).length - p := by unfold whl; rw [List.length_take]; omega
  refine ⟨by omega, by omega, by unfold rst; rw [List.length_drop]; omega, fun z => ?_⟩
  have e : (whl b p n).getD 0 0 = (dgs b p n).getD 0 0 := by
    rw [← whl_rst b p n, getD_app1 (by omega)]
  rw [e] at z
  have := s.2.2.2.2 z
  omega
end L2
set_option Elab.async false
set_option linter.all false
set_option maxRecDepth 100000
set_option maxHeartbeats 400000
namespace L2
open PySem PySem.Spec PyProof.Rows
def KnAt (P : Program) (w : World) (p : Addr) (kvs : List (Str × V)) (h : Heap) : Prop := (p == sysModules) = false ∧ MapAt P w p kvs h
def knO (P : Program) (w : World) (p : Addr) (kvs : List (Str × V)) : HO := .ext (KnAt P w p kvs)
section
variable {X : Cx} {H : Hp} {Q : VK} {K : PySem.W.Frag} {σ : St}
def tKn0 (P : Program) (w : World) : TE := fun σ H Q => ∀ p H', H p = none → Same H H' → H' p = some (knO P w p []) → Q (.ref p) H'
def rSetD (P : Program) (w : World) : V → List V → Hp → VK → Prop := fun x vs H Q => ∃ p kvs z v, x = .ref p ∧ vs = [.str z, v] ∧ H p = some (knO P w p kvs) ∧ kvs.length ≤ 1000 ∧ (∀ u, lookV kvs z = some u → Q u H) ∧ (lookV kvs z = none → ∀ H', SB p H H' → H' p = some (knO P w p (kvs ++ [(z, v)])) → Q v H')
def tBMD (P : Program) (w : World) (r : V → List V → Hp → VK → Prop) (to : TE) (t : TA) : TE := fun σ H Q => to σ H fun x H1 => (∃ p kvs, x = .ref p ∧ H1 p = some (knO P w p kvs)) ∧ t σ H1 fun xs H2 => r x xs H2 Q
end
theorem FigB.get {b : Int} {l : List Nat} (h : FigB b l) {i : Nat} (hi : i < l.length) : 0 ≤ fv (l.getD i 0) := by
  rw [List.getD_eq_getElem?_getD, List.getElem?_eq_getElem hi]; exact (h _ (List.getElem_mem hi)).2.1
end L2
set_option Elab.async false
set_option linter.all false
set_option maxRecDepth 100000
set_option maxHeartbeats 400000
namespace L2
open PySem PySem.Spec PyProof.Rows
def PassOn (X : Cx) (E : XK) : Prop := ∀ (pins : List (Addr × Obj)) (σ : St) (e : Value) (s' : Shared), XP X pins σ E e s' → X.xe e s'
section
variable {P : Program} {w : World} {K : PySem.W.Frag} {mg : Str → Option Value} {base : Heap} {N : List Str} {qual : Str} {scope : Scope} {f : Addr} {cd : Value} {A : Around} {outer : List Env} {s : Shared} {H : Hp} {E : XK}
theorem passes_on : PassOn (cxOf (CXE P w) P w K mg base N qual scope f cd A outer s H E) E := by
  intro pins σ e s' h
  obtain ⟨H1, s1, I1, fl⟩ := h
  obtain ⟨x, C, a0, H', B, rfl, hos, hbare, fly, clo, hx1, hx2, q⟩ := fl
  refine wpAny_leaves_onW I1.ok.frames rfl fly fun h2 fly2 sm => ?_
  refine ⟨x, C, a0, H', B, rfl, hos.trans I1.os, hbare, fly2, fun h3 st sm3 => ?_, ?_, hx2, q⟩
  · have cl := clo h3 st (sm.trans sm3)
    have I3 := I1.call' (s' := { s' with heap := h3 }) hos cl.1 cl.2 hbare (fun b z => nomatch z)
    exact ⟨I3.base, I3.hok⟩
  · cases z : s.heap.get? x with
    | none => rfl
    | some o =>
      obtain ⟨o', e1⟩ := I1.base.there x o z (fun h => nomatch h)
      rw [hx1] at e1; cases e1
end
theorem pe_callP {X : Cx} {x : Str} {k n : Nat} {ps : List Str} {sp : Sp} {p pos : Pos} {e : Expr} {es : List Expr} {t : TA} {E : XK} (F : HasX X.prog X.w X.K X.mg X.base x k ps sp) (pp : PassOn X E) (hr : Room n X.A) (hg : Gl X x) (ha : PA X (e :: es) t)
    (hk : k ≤ n := by decide)
    (hdb : (x == ("__debug__" : Str)) = false := by decide) (he : starEach (e :: es) X.env = (false, eval e X.env) :: starEach es X.env := by rfl) (hpl : (backTo pos (starEach es X.env)).any (·.1) = false := by rfl) :
    PE X (.Call (.Name x p) (e :: es) [] pos) (tCall sp [] E t) := by
  intro pins s σ H Q I h
  obtain ⟨f, fd, G, hm, kp, hb⟩ := F
  refine wpAny_Call_Name_kw (ld_glob I hg hm ?_ hdb)
  refine PySem.W.callWith_K (h₀ := X.base) I.ok.mod.kin kp (thn (ha pos pins s σ H _ I h) fun us s1 ⟨vs, H1, I1, r, q⟩ => ⟨I1.kIn, ?_⟩) he hpl
  have r2 : Vals (vs ++ []) (us ++ []) := r.append .nil
  have hl : (us ++ []).length = ps.length := by rw [← r2.length]; exact G.len _ _ _ _ q
  refine wpAny_call (codeAny_mono (G.run X.A X.stack s1 H1 ⟨us, []⟩ (us ++ []) (vs ++ []) Q E (hr.mono hk) I1.env0 (hb s1 us I1.kIn hl) r2 q) fun r s' hq => ?_)
  cases r with
  | error e => exact pp pins σ e s' ⟨H1, s1, I1, hq⟩
  | ok fl =>
    cases fl with
    | ret u => exact I1.after hq
    | next => exact hq.elim
    | brk => exact hq.elim
    | cont => exact hq.elim
end L2
namespace L2
open PySem PySem.Spec PyProof.Rows
theorem passes_cx {P : Program} {w : World} {K : PySem.W.Frag} {mg : Str → Option Value} {base : Heap} {N : List Str} {qual : Str} {scope : Scope} {f : Addr} {cd : Value} {A : Around} {outer : List Env} {s : Shared} {H : Hp} {E : XK} : Passes (CXE P w) (cxOf (CXE P w) P w K mg base N qual scope f cd A outer s H E) E := fun pins σ H1 s1 e s' I h => passes_on pins σ e s' ⟨H1, s1, I, h⟩
end L2
set_option Elab.async false
set_option linter.all false
set_option maxRecDepth 100000
set_option maxHeartbeats 400000
namespace L2
open PySem PySem.Spec PyProof.Rows
abbrev tsV (ts : List (List Nat)) : List V := ts.map fun l => V.str (T l)
section
variable {X : Cx} {H : Hp} {Q : VK} {K : PySem.W.Frag}
def rEqLs (K : PySem.W.Frag) : R2 := fun x y H Q => ∃ (p q : Addr) (as bs : List (List Nat)), x = .ref p ∧ y = .ref q ∧ SqL K H p (tsV as) ∧ SqL K H q (tsV bs) ∧ Q (.bl (decide (as = bs))) H
def rNeLs (K : PySem.W.Frag) : R2 := fun x y H Q => ∃ (p q : Addr) (as bs : List (List Nat)), x = .ref p ∧ y = .ref q ∧ SqL K H p (tsV as) ∧ SqL K H q (tsV bs) ∧ Q (.bl (!decide (as = bs))) H
def rListOf (K : PySem.W.Frag) : List V → Hp → VK → Prop := fun xs H Q => ∃ p ys, xs = [.ref p] ∧ (SqL K H p ys ∨ SqT K H p ys) ∧ ∀ l, H l = none → Q (.ref l) (upd H l (.lst ys))
def rStartT : V → List V → Hp → VK → Prop := fun x xs H Q => ∃ a b : List Nat, x = .str (T a) ∧ xs = [.str (T b)] ∧ Q (.bl (decide (a.take b.length = b))) H
end
end L2
set_option Elab.async false
set_option linter.all false
set_option maxRecDepth 100000
set_option maxHeartbeats 400000
namespace L2
open PySem PySem.Spec PyProof.Rows
def lk (n w : Int) : Int := if n < w then w - n else 0
def Side (x : Str) : Prop := x = "left" ∨ x = "right" ∨ x = "middle"
def pA (x : Str) (n w : Int) : Int := if x = "left" then 0 else if x = "right" then lk n w else lk n w / 2
def pB (x : Str) (n w : Int) : Int := lk n w - pA x n w
def PadsB (x : Str) (n w : Int) : Prop := 0 ≤ pA x n w ∧ 0 ≤ pB x n w ∧ pA x n w + pB x n w = lk n w ∧ (x = "left" → pA x n w = 0) ∧ (x = "right" → pB x n w = 0) ∧ (x = "middle" → pB x n w = pA x n w ∨ pB x n w = pA x n w + 1)
def pad (t : List Nat) (w : Int) (f : Nat) (x : Str) : List Nat := List.replicate (pA x t.length w).toNat f ++ t ++ List.replicate (pB x t.length w).toNat f
def sl (t : List Nat) (w : Int) (x : Str) (n : Nat) : List Nat := (t.take ((pA x n w) + n).toNat).drop (pA x n w).toNat
def gd (t : List Nat) (w : Int) (f : Nat) (x : Str) (n : Nat) : Bool := decide (pad (sl t w x n) w f x = t)
def strips (t : List Nat) (w : Int) (f : Nat) (x : Str) : List (List Nat) := if w < t.length then [t] else ((List.range (w + 1).toNat).filter (gd t w f x)).map (sl t w x)
def nxt (t : List Nat) (w : Int) (f : Nat) (x : Str) : List Nat := if x = "left" ∨ (x = "middle" ∧ (w - t.length) % 2 = 1) then t ++ [f] else [f] ++ t
def Fst (t : List Nat) (w : Int) (f : Nat) (x : Str) : Prop := w < t.length ∨ ((x = "left" → t.drop (t.length - 1) ≠ [f]) ∧ (x = "right" → t.take 1 ≠ [f]) ∧ (x = "middle" → t.take 1 ≠ [f] ∧ t.drop (t.length - 1) ≠ [f]))
structure Fnd (t : List Nat) (w : Int) (f : Nat) (x : Str) (W : List Nat) (F : List (List Nat)) : Prop where
  has : t ∈ F
  pos : 0 < F.length
  last : F.getD (F.length - 1) [] = W
  each : ∀ k, k < F.length → pad (F.getD k []) w f x = W
  len : ∀ k, k < F.length → (F.getD k []).length ≤ W.length
  next : ∀ k, 0 < k → k < F.length → F.getD k [] = nxt (F.getD (k - 1) []) w f x
  first : Fst t w f x → F.getD 0 [] = t
def fa (f : Nat) : List Nat → Nat
  | [] => 0
  | c :: t => if c = f then fa f t + 1 else 0
end L2
set_option Elab.async false
set_option linter.all false
set_option maxRecDepth 100000
set_option maxHeartbeats 400000
namespace L2
open PySem PySem.Spec PyProof.Rows
structure FunD (K : PySem.W.Frag) (x qual : Str) (st : Stmt) (f : Addr) (fd : FuncData) : Prop where
  ex : ∃ (oc : Value) (od : Option Addr) (dV kV doc pm : Value) (an : Option Addr) (cdv ct : Value) (osl : Array (Option Value)),
    fd = PySem.W.fnOf x qual (defArgs st) (defBody st) (defScope st) dV kV doc pm an cdv ct ∧ K.lookup f = some ⟨oc, od, .func fd, osl⟩ ∧ PySem.W.codeIn K cdv qual = true
  kp : PySem.W.keepIn K (.ref f) = true
theorem Fun.d {K : PySem.W.Frag} {x qual : Str} {st : Stmt} {f : Addr} {fd : FuncData} (F : Fun K x qual st f fd) : FunD K x qual st f fd := by
  obtain ⟨oc, od, kV, doc, pm, an, cdv, ct, osl, h⟩ := F.ex
  exact ⟨⟨oc, od, .none, kV, doc, pm, an, cdv, ct, osl, h⟩, F.kp⟩
section
variable {P : Program} {w : World} {K : PySem.W.Frag} {mg : Str → Option Value} {base : Heap}
theorem FunD.ok {x qual : Str} {st : Stmt} {f : Addr} {fd : FuncData} {N ps : List Str} {k : Nat} {sp : Sp} (F : FunD K x qual st f fd) (S : FnScope N ps (defScope st)) (len : ∀ vs H Q E, sp vs H Q E → vs.length = ps.length)
    (hbody : ∀ (cdv : Value) (A : Around) (outer : List Env) (s : Shared) (H : Hp) (vs : List V) (Q : VK) (E : XK), Room k (A.deeper (envOfC qual (defScope st) s.heap.objs.size f cdv)) → sp vs H Q E →
      ∃ t, PSs (cxOf CX0 P w K mg base N qual (defScope st) f cdv A outer s H E).nox (defBody st) t ∧ t { nx := fun _ H' => Q .non H', rt := Q } (start N vs) H) : FnOk P w K mg base CX0 (k + 1) f fd ps sp := by
  obtain ⟨oc, od, dV, kV, doc, pm, an, cdv, ct, osl, rfl, lk, hcd⟩ := F.ex
  refine fn_of lk hcd S len fun A outer s H vs Q E hr hsp => ?_
  obtain ⟨t, h, q⟩ := hbody cdv A outer s H vs Q E hr hsp
  exact ⟨t, h.nox, q⟩
theorem FunD.okX {x qual : Str} {st : Stmt} {f : Addr} {fd : FuncData} {N ps : List Str} {k : Nat} {sp : Sp} (F : FunD K x qual st f fd) (S : FnScope N ps (defScope st)) (len : ∀ vs H Q E, sp vs H Q E → vs.length = ps.length)
    (hbody : ∀ (cdv : Value) (A : Around) (outer : List Env) (s : Shared) (H : Hp) (vs : List V) (Q : VK) (E : XK), Room k (A.deeper (envOfC qual (defScope st) s.heap.objs.size f cdv)) → sp vs H Q E →
      Takes (cxOf (CXE P w) P w K mg base N qual (defScope st) f cdv A outer s H E) E → Passes (CXE P w) (cxOf (CXE P w) P w K mg base N qual (defScope st) f cdv A outer s H E) E → ∃ t, PSs (cxOf (CXE P w) P w K mg base N qual (defScope st) f cdv A outer s H E) (defBody st) t ∧ t { nx := fun _ H' => Q .non H', rt := Q } (start N vs) H) : FnOk P w K mg base (CXE P w) (k + 1) f fd ps sp := by
  obtain ⟨oc, od, dV, kV, doc, pm, an, cdv, ct, osl, rfl, lk, hcd⟩ := F.ex
  exact fn_of lk hcd S len fun A outer s H vs Q E hr hsp => hbody cdv A outer s H vs Q E hr hsp (fun pins σ H s h' x C args I hm q => leaves_made I hm q) passes_cx
theorem FunD.binds {x qual : Str} {st : Stmt} {f : Addr} {fd : FuncData} {ps : List Str} (F : FunD K x qual st f fd)
    (h : ∀ (dV kV doc pm : Value) (an : Option Addr) (cdv ct : Value) (us : List Value), us.length = ps.length → bindArgs (PySem.W.fnOf x qual (defArgs st) (defBody st) (defScope st) dV kV doc pm an cdv ct) ⟨us, []⟩ = pure (ps.zip us)) : Binds K fd ps [] := by
  obtain ⟨oc, od, dV, kV, doc, pm, an, cdv, ct, osl, rfl, lk, hcd⟩ := F.ex
  exact .all (h dV kV doc pm an cdv ct)
end
def HasM (P : Program) (w : World) (K : PySem.W.Frag) (mg : Str → Option Value) (base : Heap) (CX : CXT) (C : Addr) (m : Str) (k : Nat) (ps : List Str) (sp : Sp) : Prop :=
  ∃ (f : Addr) (fd : FuncData), FnOk P w K mg base CX k f fd ps sp ∧ Meth K C m f ∧ Binds K fd ps []
def HasI (P : Program) (w : World) (K : PySem.W.Frag) (mg : Str → Option Value) (base : Heap) (CX : CXT) (C : Addr) (k : Nat) (ps : List Str) (sp : Sp) : Prop :=
  ∃ (f : Addr) (fd : FuncData), FnOk P w K mg base CX k f fd ps sp ∧ Mk K C f ∧ Binds K fd ps []
structure CMeth (K : PySem.W.Frag) (C : Addr) (m : Str) (f : Addr) : Prop where
  sp : PySem.W.specialIn K (.ref C) "__getattribute__" = some (some (.builtin "type.__getattribute__"))
  rd : PySem.W.readsIn K C (.type "type") = true
  fc : PySem.W.findCls K (.ref C) (.type "type") m = some (.val (.ref f))
  kp : PySem.W.keepIn K (.ref f) = true
def HasC (P : Program) (w : World) (K : PySem.W.Frag) (mg : Str → Option Value) (base : Heap) (CX : CXT) (C : Addr) (m : Str) (k : Nat) (ps : List Str) (sp : Sp) : Prop :=
  ∃ (f : Addr) (fd : FuncData), FnOk P w K mg base CX k f fd ps sp ∧ CMeth K C m f ∧ Binds K fd ps []
section
variable {X : Cx} {CX : CXT} {k n : Nat} {C : Addr} {ps : List Str} {sp : Sp} {E : XK} {x m : Str} {p np pos apos : Pos} {e o : Expr} {es : List Expr} {ta : TE} {t : TA}
end
section
variable {σ : St} {H : Hp} {Q : VK} {D : Ends} {K : PySem.W.Frag} {C : Addr} {m f : Str} {sp : Sp} {E : XK} {ta tv : TE} {t : TA} {a : Addr}
def InsM (H : Hp) (a C : Addr) (m : Str) : Prop := ∃ dx fs, H a = some (.ins C dx fs) ∧ fs.lookup m = none
def FldAt (K : PySem.W.Frag) (H : Hp) (a : Addr) (f : Str) (v : V) : Prop := ∃ C dx fs, H a = some (.ins C dx fs) ∧ Cls K C ∧ NoAttr K C f ∧ fs.lookup f = some v
theorem InsM.same {H' : Hp} (g : Same H H') (h : InsM H a C m) : InsM H' a C m := by obtain ⟨dx, fs, e, l⟩ := h; exact ⟨dx, fs, g _ _ e, l⟩
theorem FldAt.same {H' : Hp} {v : V} (g : Same H H') (h : FldAt K H a f v) : FldAt K H' a f v := by obtain ⟨C, dx, fs, e, l⟩ := h; exact ⟨C, dx, fs, g _ _ e, l⟩
def kMeth (C : Addr) (m : Str) (sp : Sp) (dvs : List V) (E : XK) (t : TA) (σ : St) (Q : VK) : VK := fun x H1 => ∃ a dx fs, x = .ref a ∧ H1 a = some (.ins C dx fs) ∧ fs.lookup m = none ∧ t σ H1 fun vs H2 => sp (x :: (vs ++ dvs)) H2 Q E
def kFld (K : PySem.W.Frag) (f : Str) (Q : VK) : VK := fun x H1 => ∃ a C dx fs v, x = .ref a ∧ H1 a = some (.ins C dx fs) ∧ Cls K C ∧ NoAttr K C f ∧ fs.lookup f = some v ∧ Q v H1
def kSet (K : PySem.W.Frag) (f : Str) (y : V) (D : Ends) (σ : St) : VK := fun x H2 => ∃ a C dx fs, x = .ref a ∧ H2 a = some (.ins C dx fs) ∧ Cls K C ∧ NoAttr K C f ∧ fs.length < 1000 ∧ D.nx σ (upd H2 a (.ins C dx (putF f y fs)))
def kMake (C : Addr) (sp : Sp) (dvs : List V) (E : XK) (Q : VK) : List V → Hp → Prop := fun vs H1 => ∀ x dx, H1 x = none → H1 dx = none → dx ≠ x →
  sp (.ref x :: (vs ++ dvs)) (upd (upd H1 dx (.own x)) x (.ins C dx [])) (fun v H2 => v = .non ∧ Q (.ref x) H2) E
theorem lk_eq {k : Str} {x : V} {r : List (Str × V)} : ((k, x) :: r).lookup k = some x := by simp [List.lookup]
theorem lk_ne {f k : Str} {x : V} {r : List (Str × V)} (h : f ≠ k) : ((k, x) :: r).lookup f = r.lookup f := by
  have : (f == k) = false := by simpa using h
  simp [List.lookup, this]
end
def Wk (σc σ : St) : Prop := σc.length = σ.length ∧ ∀ (i : Nat) v, σc[i]? = some (some v) → σ[i]? = some (some v)
theorem Wk.nil : Wk [] [] := ⟨rfl, fun i v h => h⟩
theorem Wk.one {a b : St} {x : Option V} (h : Wk a b) : Wk (x :: a) (x :: b) := ⟨by rw [List.length_cons, List.length_cons, h.1], fun i v e => by
  cases i with
  | zero => exact e
  | succ i => exact h.2 i v e⟩
theorem Wk.any {a b : St} {x : Option V} (h : Wk a b) : Wk (none :: a) (x :: b) := ⟨by rw [List.length_cons, List.length_cons, h.1], fun i v e => by
  cases i with
  | zero => exact absurd (Option.some.inj e) (by simp)
  | succ i => exact h.2 i v e⟩
def Cx.tr (X : Cx) (pins : List (Addr × Obj)) (σc : St) (E : XK) : Cx := { X with pn := X.pn ++ pins, xe := XP X pins σc E }
section
variable {X : Cx} {pins pins0 : List (Addr × Obj)} {σ σc : St} {H : Hp} {s : Shared} {E : XK}
theorem Cx.Ok.tr (ok : X.Ok) : (X.tr pins σc E).Ok := ⟨ok.mod, ok.kind, ok.glob, ok.blt, ok.above, ok.inj, ok.has, ok.cab, ok.hd, ok.frames, ok.stk, ok.exf, ok.bs, ok.bsz, ok.noex, ok.exfs, ok.funs, ok.frf⟩
theorem Inv.tr (I : Inv X pins σ H s) : Inv (X.tr pins σc E) [] σ H s := ⟨I.ok.tr, I.os, I.bare, I.base, I.loc, I.cell, I.free, I.freeC, fun p hp => I.pin p (by simpa [Cx.tr] using hp), I.hok, I.len⟩
theorem SP.outExc {y : Addr} {D : Ends} {f : Flow} {s' : Shared} (ok : X.Ok) (h : SP (X.inExc y) pins D f s') : SP X pins D f s' := by
  cases f with
  | next => obtain ⟨σ', H', I, q⟩ := h; exact ⟨σ', H', I.outExc ok, q⟩
  | brk => obtain ⟨σ', H', I, q⟩ := h; exact ⟨σ', H', I.outExc ok, q⟩
  | cont => obtain ⟨σ', H', I, q⟩ := h; exact ⟨σ', H', I.outExc ok, q⟩
  | ret u => obtain ⟨v, σ', H', I, r, q⟩ := h; exact ⟨v, σ', H', I.outExc ok, r, q⟩
end
def PHs (X : Cx) (hs : List ExceptHandler) (th : Addr → TS) : Prop :=
  ∀ (pins : List (Addr × Obj)) (s : Shared) (σ : St) (H : Hp) (D : Ends) (y C : Addr) (B : Heap) (a0 : Value), Heap.FlyingW B (X.env :: X.outer) y (.ref C) a0 s.heap → Inv X pins σ H s →
    (∀ h', B.StaysIn h' → s.heap.UpToSlots h' → Inv X pins σ H { s with heap := h' }) → th C D σ H → wpAny (model X.prog X.w) X.A (handleBy (.ref y) X.env hs) (SP X pins D) X.xe s
def tHn : Addr → TS := fun _ _ _ _ => False
def tHc (K : PySem.W.Frag) (C' : Addr) (ts : TS) (th : Addr → TS) : Addr → TS := fun C D σ H => ∃ b, PySem.W.exmOne K (.ref C) (.ref C') = some b ∧ if b = true then ts D σ H else th C D σ H
section
variable {X : Cx} {cx : Str} {C' : Addr} {ts : TS} {th : Addr → TS} {np hpos pos : Pos} {b₀ : Stmt} {suite body : List Stmt} {rest hs : List ExceptHandler} {h₀ : ExceptHandler} {tb : St → XK → TS}
theorem isx {B : Heap} {l : List Env} {y C : Addr} {a0 : Value} {h : Heap} (fl : Heap.FlyingW B l y (.ref C) a0 h) : ExAt y C h := by
  obtain ⟨_, _, _, oe, vs, _, _, _, h1, ⟨h2, _⟩, h3, _⟩ := fl
  exact ⟨oe, h1, h2, vs, h3⟩
def tTryG (tb : St → XK → TS) (th : Addr → TS) : TS := fun D σ H => ∃ σc, tb σc (fun cls _ H2 => ∃ C, cls = .ref C ∧ th C D σc H2) D σ H
end
section
variable {X : Cx} {pins0 : List (Addr × Obj)} {σc : St} {k n : Nat} {C : Addr} {ps : List Str} {sp : Sp} {E : XK} {x m : Str} {p np pos apos : Pos} {e o : Expr} {es : List Expr} {ta : TE} {t : TA}
def tMethT (C : Addr) (m : Str) (sp : Sp) (E : XK) (σc : St) (ta : TE) (t : TA) : TE := fun σ H Q => ta σ H (kMeth C m (fun vs H Q E => Wk σc σ ∧ sp vs H Q E) [] E t σ Q)
def tCallT (sp : Sp) (E : XK) (σc : St) (t : TA) : TE := fun σ H Q => t σ H fun vs H1 => Wk σc σ ∧ sp (vs ++ []) H1 Q E
variable {σ : St} {H : Hp} {Q : VK}
theorem r_callT (h : t σ H fun vs H1 => Wk σc σ ∧ sp (vs ++ []) H1 Q E) : tCallT sp E σc t σ H Q := h
theorem r_wk {R : Prop} (h : Wk σc σ) (q : R) : Wk σc σ ∧ R := ⟨h, q⟩
end
end L2
set_option Elab.async false
set_option linter.all false
set_option maxRecDepth 100000
set_option maxHeartbeats 400000
namespace L2
open PySem PySem.Spec PyProof.Rows
def ItrD (hi : Int) (n : Nat) : It := ⟨fun i _ => i < n, fun i H x H' => H' = H ∧ x = .int (hi - i), fun i _ => n ≤ i⟩
section
variable {X : Cx} {tg : Expr}
def iRngD (ta : TA) : TI := fun σ H R => ta σ H fun vs H1 => ∃ i j : Int, vs = [.int i, .int j, .int (-1)] ∧ (-(2 ^ 62) ≤ i ∧ i < 2 ^ 62 ∧ -(2 ^ 62) ≤ j ∧ j < 2 ^ 62) ∧ R (ItrD i (i - j).toNat) H1
def kForD (g : TG) (tb : TS) (D : Ends) (σ : St) (vs : List V) (H : Hp) : Prop := ∃ i j : Int, vs = [.int i, .int j, .int (-1)] ∧ (-(2 ^ 62) ≤ i ∧ i < 2 ^ 62 ∧ -(2 ^ 62) ≤ j ∧ j < 2 ^ 62) ∧ ∃ W : Nat → Nat → St → Hp → Prop, (∃ m, W 0 m σ H) ∧ ∀ k m σ H, W k m σ H →
  ((ItrD i (i - j).toNat).stop k H ∧ D.nx σ H) ∨ ((ItrD i (i - j).toNat).go k H ∧ ∃ N : St → Hp → Prop, (∀ σ' H', N σ' H' → ∃ m', m' < m ∧ W (k + 1) m' σ' H') ∧ ∀ x H', (ItrD i (i - j).toNat).yld k H x H' → g x σ H' fun σ2 H2 => tb { D with nx := N, ct := N, bk := D.nx } σ2 H2)
def picks (z : Str) (lo hi : Option Int) (st : Int) : List Nat := (Builtin.Str.strSliceIndices lo hi st z.length).filterMap ((Lt z)[·]?)
def rSl3 : V → Option Int → Option Int → Int → Hp → VK → Prop := fun x lo hi st H Q => ∃ z : Str, x = .str z ∧ st ≠ 0 ∧ z.length ≤ sizeLine ∧ (picks z lo hi st).length ≤ sizeLine ∧ ∀ y, (y = T (picks z lo hi st) ∨ (st = 1 ∧ y = z)) → Q (.str y) H
def tSl3 (r : V → Option Int → Option Int → Int → Hp → VK → Prop) (te : TE) (tl th : TO) (ts : TE) : TE := fun σ H Q => te σ H fun x H1 => tl σ H1 fun l H2 => th σ H2 fun u H3 => ts σ H3 fun s H4 => ∃ i, s = .int i ∧ r x l u i H4 Q
end
end L2
set_option Elab.async false
set_option linter.all false
set_option maxRecDepth 100000
set_option maxHeartbeats 400000
namespace L2
open PySem PySem.Spec PyProof.Rows
def NoAttrs (K : PySem.W.Frag) (C : Addr) : List Str → Prop
  | [] => True
  | f :: r => NoAttr K C f ∧ NoAttrs K C r
theorem NoAttrs.at {K : PySem.W.Frag} {C : Addr} {f : Str} : ∀ {l : List Str}, NoAttrs K C l → f ∈ l → NoAttr K C f
  | [], _, h => by cases h
  | g :: r, n, h => by
    rcases List.mem_cons.mp h with rfl | h
    · exact n.1
    · exact n.2.at h
def bfs (wd : Int) (f : Nat) (x : Str) (st : Bool) (more : List (Str × V)) : List (Str × V) := ("width", .int wd) :: ("fill", .str (T [f])) :: ("side", .str x) :: ("strict", .bl st) :: more
def bns : List Str := ["width", "fill", "side", "strict"]
structure FormAt (K : PySem.W.Frag) (H : Hp) (a C : Addr) (wd : Int) (f : Nat) (x : Str) (st : Bool) (more : List (Str × V)) : Prop where
  at_ : ∃ dx, H a = some (.ins C dx (bfs wd f x st more))
  cl : Cls K C
  na : NoAttrs K C (bns ++ more.map (·.1))
section
variable {K : PySem.W.Frag} {H H' : Hp} {a C : Addr} {wd : Int} {f : Nat} {x : Str} {st : Bool} {more : List (Str × V)} {g m : Str} {v : V}
theorem FormAt.same (s : Same H H') (F : FormAt K H a C wd f x st more) : FormAt K H' a C wd f x st more := ⟨F.at_.imp fun _ e => s _ _ e, F.cl, F.na⟩
theorem bfs_width : (bfs wd f x st more).lookup ("width" : Str) = some (.int wd) := lk_eq
theorem bfs_fill : (bfs wd f x st more).lookup ("fill" : Str) = some (.str (T [f])) := (lk_ne (by decide +kernel)).trans lk_eq
theorem bfs_side : (bfs wd f x st more).lookup ("side" : Str) = some (.str x) := (lk_ne (by decide +kernel)).trans ((lk_ne (by decide +kernel)).trans lk_eq)
theorem bfs_strict : (bfs wd f x st more).lookup ("strict" : Str) = some (.bl st) := (lk_ne (by decide +kernel)).trans ((lk_ne (by decide +kernel)).trans ((lk_ne (by decide +kernel)).trans lk_eq))
theorem bfs_more (h : g ∉ bns) : (bfs wd f x st more).lookup g = more.lookup g := by
  simp only [bns, List.mem_cons, List.not_mem_nil, or_false, not_or] at h
  exact (lk_ne h.1).trans ((lk_ne h.2.1).trans ((lk_ne h.2.2.1).trans (lk_ne h.2.2.2)))
theorem FormAt.fld (F : FormAt K H a C wd f x st more) (n : g ∈ bns ++ more.map (·.1)) (l : (bfs wd f x st more).lookup g = some v) : FldAt K H a g v := by
  obtain ⟨dx, e⟩ := F.at_
  exact ⟨C, dx, _, e, F.cl, F.na.at n, l⟩
theorem FormAt.width (F : FormAt K H a C wd f x st more) : FldAt K H a "width" (.int wd) := F.fld (List.mem_append_left _ (by decide +kernel)) bfs_width
theorem FormAt.fill (F : FormAt K H a C wd f x st more) : FldAt K H a "fill" (.str (T [f])) := F.fld (List.mem_append_left _ (by decide +kernel)) bfs_fill
theorem FormAt.side (F : FormAt K H a C wd f x st more) : FldAt K H a "side" (.str x) := F.fld (List.mem_append_left _ (by decide +kernel)) bfs_side
theorem FormAt.strict (F : FormAt K H a C wd f x st more) : FldAt K H a "strict" (.bl st) := F.fld (List.mem_append_left _ (by decide +kernel)) bfs_strict
theorem FormAt.own (F : FormAt K H a C wd f x st more) (h : g ∉ bns) (l : more.lookup g = some v) (n : g ∈ more.map (·.1)) : FldAt K H a g v := F.fld (List.mem_append_right _ n) ((bfs_more h).trans l)
end
section
variable {X : Cx} {K : PySem.W.Frag} {σ : St} {H : Hp} {Q : VK} {is : List Nat} {tt : TT} {te : TE}
def rAll (K : PySem.W.Frag) : List V → Hp → VK → Prop := fun xs H Q => ∃ (p : Addr) (bs : List Bool), xs = [.ref p] ∧ SqL K H p (bs.map V.bl) ∧ Q (.bl (bs.all id)) H
def kCompS (is : List Nat) (tt : TT) (te : TE) (σ : St) (Q : VK) (x : V) (H : Hp) : Prop := ∃ z : Str, x = .str z ∧ kComp is tt te σ Q (Its z) H
end
end L2
set_option Elab.async false
set_option linter.all false
set_option maxRecDepth 100000
set_option maxHeartbeats 400000
namespace L2
open PySem PySem.Spec PyProof.Rows
mutual
inductive Dt (K : PySem.W.Frag) (H : Hp) : V → PyData → Prop
  | non : Dt K H .non .none
  | bl (b : Bool) : Dt K H (.bl b) (.bool b)
  | int (i : Int) : Dt K H (.int i) (.int i)
  | str (z : Str) : Dt K H (.str z) (.str z)
  | lst {p : Addr} {xs : List V} {ds : List PyData} : SqL K H p xs → Dts K H xs ds → Dt K H (.ref p) (.list ds)
  | tup {p : Addr} {xs : List V} {ds : List PyData} : SqT K H p xs → Dts K H xs ds → Dt K H (.ref p) (.tuple ds)
inductive Dts (K : PySem.W.Frag) (H : Hp) : List V → List PyData → Prop
  | nil : Dts K H [] []
  | cons {x : V} {d : PyData} {xs : List V} {ds : List PyData} : Dt K H x d → Dts K H xs ds → Dts K H (x :: xs) (d :: ds)
end
section
variable {X : Cx} {pins : List (Addr × Obj)} {σ : St} {H H' : Hp} {s : Shared} {K : PySem.W.Frag} {Q : VK}
mutual
theorem Dt.same (g : Same H H') : ∀ {x : V} {d : PyData}, Dt K H x d → Dt K H' x d
  | _, _, .non => .non
  | _, _, .bl b => .bl b
  | _, _, .int i => .int i
  | _, _, .str z => .str z
  | _, _, .lst h hs => .lst (g.seq h) (Dts.same g hs)
  | _, _, .tup h hs => .tup (SqT.same h g) (Dts.same g hs)
theorem Dts.same (g : Same H H') : ∀ {xs : List V} {ds : List PyData}, Dts K H xs ds → Dts K H' xs ds
  | _, _, .nil => .nil
  | _, _, .cons h hs => .cons (Dt.same g h) (Dts.same g hs)
end
def rEqD (K : PySem.W.Frag) : R2 := fun x y H Q => ∃ d, Dt K H x d ∧ Dt K H y d ∧ d.canLay0 = true ∧ d.depth ≤ 20 ∧ Q (.bl true) H
def rNeD (K : PySem.W.Frag) : R2 := fun x y H Q => ∃ d, Dt K H x d ∧ Dt K H y d ∧ d.canLay0 = true ∧ d.depth ≤ 20 ∧ Q (.bl false) H
end
end L2
set_option Elab.async false
set_option linter.all false
set_option maxRecDepth 100000
set_option maxHeartbeats 400000
namespace L2
open PySem PySem.Spec PyProof.Rows
section
variable {X : Cx} {H : Hp} {Q : VK} {K : PySem.W.Frag}
def rIndexT : V → List V → Hp → VK → Prop := fun x vs H Q => ∃ (l : Addr) (zs : List Str) (z : Str) (j : Nat), x = .ref l ∧ vs = [.str z] ∧ H l = some (.lst (zs.map V.str)) ∧ zs[j]? = some z ∧ (∀ m, m < j → zs[m]? ≠ some z) ∧ j < 1000 ∧ Q (.int j) H
end
def RsA (H : Hp) (v : V) (d : PyData) : Prop := (∃ z : Str, v = .str z ∧ d = .str z) ∨ ∃ (q : Addr) (z : Str), v = .ref q ∧ H q = some (.tup [.str z]) ∧ d = .tuple [.str z]
section
variable {H H' : Hp} {v : V} {d : PyData} {K : PySem.W.Frag}
theorem RsA.tag {q : Addr} {z : Str} (h : H q = some (.tup [.str z])) : RsA H (.ref q) (.tuple [.str z]) := .inr ⟨q, z, rfl, h, rfl⟩
theorem RsA.same (g : Same H H') (h : RsA H v d) : RsA H' v d := by
  rcases h with ⟨z, a, b⟩ | ⟨q, z, a, e, b⟩
  · exact .inl ⟨z, a, b⟩
  · exact .inr ⟨q, z, a, g _ _ e, b⟩
end
section
variable {X : Cx} {pos : Pos}
def tPar3 (i j k : Nat) (ta : TA) : TS := fun D σ H => ta σ H fun vs H1 => ∃ v1 v2 v3, vs = [v1, v2, v3] ∧ D.nx (((σ.set k (some v3)).set j (some v2)).set i (some v1)) H1
def kPar3 (i j k : Nat) (D : Ends) (σ : St) (vs : List V) (H1 : Hp) : Prop := ∃ v1 v2 v3, vs = [v1, v2, v3] ∧ D.nx (((σ.set k (some v3)).set j (some v2)).set i (some v1)) H1
end
section
variable {X : Cx} {H : Hp} {Q : VK}
def rNInS : R2 := fun x y H Q => ∃ (c : Nat) (a : List Nat), x = .str (T [c]) ∧ y = .str (T a) ∧ Q (.bl (!decide (c ∈ a))) H
end
end L2
set_option Elab.async false
set_option linter.all false
set_option maxRecDepth 100000
set_option maxHeartbeats 400000
namespace L2
open PySem PySem.Spec PyProof.Rows
def low (b : Nat) : Nat → Nat → List Nat
  | 0, _ => []
  | p + 1, n => low b p (n / b) ++ [fc (n % b)]
def pz (b p r : Nat) : List Nat := List.replicate (p - (figs b r).length) 48 ++ figs b r
end L2
set_option Elab.async false
set_option linter.all false
set_option maxRecDepth 100000
set_option maxHeartbeats 400000
namespace L2
open PySem PySem.Spec PyProof.Rows
end L2
set_option Elab.async false
set_option linter.all false
set_option maxRecDepth 100000
set_option maxHeartbeats 1000000
namespace L2
open PySem PySem.Spec PyProof.Rows
def C2 (h : Heap) (e : Addr) : Prop := ∃ o vs, h.get? e = some o ∧ o.data = .fields vs ∧ vs[2]? = some .none
theorem nofields {h : Heap} {e b : Addr} {oe o : Obj} {vs : Array Value} (a : h.get? e = some oe) (d : oe.data = .fields vs) (q : h.get? b = some o) (n : ∀ us, o.data ≠ .fields us) : b ≠ e := by
  rintro rfl
  rw [a] at q
  cases q
  exact n vs d
theorem noted_heap {base h g : Heap} {l : List Env} {e : Addr} {oe ob : Obj} {vs ts : Array Value} {a0 fl : Value} (FF : h.FunFrames base l) (sg : Heap.SlotsOnly (l.filterMap (·.frame)) h g) (a1 : h.get? e = some oe)
    (a2 : base.StaysIn h) (a3 : base.get? e = none) (a4 : oe.data = .fields vs) (a5 : 1 < vs.size) (a6 : vs[0]? = some a0) (a7 : vs[2]? = some .none) (b1 : ob.data = .fields ts) (b2 : ts[3]? = some fl) :
    Heap.NotedW base l e oe.cls a0 fl h ((g.push ob).update e (Obj.mapFields (·.setIfInBounds 1 (Value.ref g.objs.size)))) ∧ C2 ((g.push ob).update e (Obj.mapFields (·.setIfInBounds 1 (Value.ref g.objs.size)))) e := by
  have nf : e ∉ l.filterMap (·.frame) := fun m => by
    obtain ⟨_, o, q, n⟩ := FF.mem m
    exact nofields a1 a4 q n rfl
  have g1 : g.get? e = some oe := (sg.2.1 e nf).trans a1
  have ne : g.objs.size ≠ e := fun z => Nat.lt_irrefl _ (z ▸ Heap.lt_size g1)
  have d1 : (Obj.mapFields (·.setIfInBounds 1 (Value.ref g.objs.size)) oe).data = _ := Obj.data_mapFields a4 _
  have self : ((g.push ob).update e (Obj.mapFields (·.setIfInBounds 1 (Value.ref g.objs.size)))).get? e = some (Obj.mapFields (·.setIfInBounds 1 (Value.ref g.objs.size)) oe) :=
    Heap.get?_update_self _ (Heap.get?_push_of_some _ g1) (Obj.isFreed_of_fields d1)
  have kp : ∀ {b : Addr} {o : Obj}, b ≠ e → g.get? b = some o → ((g.push ob).update e (Obj.mapFields (·.setIfInBounds 1 (Value.ref g.objs.size)))).get? b = some o := fun {b o} n q => by
    rw [Heap.get?_update_other _ _ (Ne.symm n)]; exact Heap.get?_push_of_some _ q
  have new : ((g.push ob).update e (Obj.mapFields (·.setIfInBounds 1 (Value.ref g.objs.size)))).get? g.objs.size = some ob := by
    rw [Heap.get?_update_other _ _ (Ne.symm ne)]; exact Heap.get?_push_size g (Obj.isFreed_of_fields b1)
  have bg : base.StaysIn g := fun b o q => (sg.2.1 b fun m => by rw [(FF.mem m).1] at q; cases q).trans (a2 b o q)
  have oth : ∀ b o, h.get? b = some o → (∀ us, o.data ≠ .fields us) → ∃ sl, ((g.push ob).update e (Obj.mapFields (·.setIfInBounds 1 (Value.ref g.objs.size)))).get? b = some { o with slots := sl } := fun b o q n => by
    obtain ⟨sl, q1⟩ := sg.2.2 b o q
    exact ⟨sl, kp (nofields a1 a4 q n) q1⟩
  refine ⟨⟨fun b o q => kp (fun z => by rw [z, a3] at q; cases q) (bg b o q), FF.of_keeps fun b o q n => ?_, ⟨_, _, g.objs.size, ob, ts, self, ⟨Obj.cls_mapFields _ _, ?_⟩, d1, ?_, ?_, ne, new, b1, b2⟩, oth⟩, ⟨_, _, self, d1, ?_⟩⟩
  · obtain ⟨sl, q1⟩ := oth b o q n
    exact ⟨_, q1, rfl⟩
  · rw [Array.getElem?_setIfInBounds_ne (by decide)]; exact a6
  · rw [Array.getElem?_setIfInBounds_self_of_lt a5]
  · cases z : base.get? g.objs.size with
    | none => rfl
    | some o => exact absurd (Heap.lt_size (bg _ o z)) (Nat.lt_irrefl _)
  · rw [Array.getElem?_setIfInBounds_ne (by decide)]; exact a7
section
variable {M : Model} {A : Around} {E : Value → Shared → Prop} {s : Shared} {base : Heap} {env : Env} {outer : List Env} {L e : Addr} {Q : Unit → Shared → Prop}
theorem entryC {oe : Obj} {vs : Array Value} {head a0 : Value} {hadNext : Bool} (fr : A.frames = some (env :: outer)) (FF : s.heap.FunFrames base (env :: outer)) (ef : env.frame = some L) (a1 : s.heap.get? e = some oe)
    (a2 : base.StaysIn s.heap) (a3 : base.get? e = none) (a4 : oe.data = .fields vs) (a5 : 1 < vs.size) (a6 : vs[0]? = some a0) (a7 : vs[2]? = some .none)
    (k : ∀ h', Heap.NotedW base (env :: outer) e oe.cls a0 (rawInt L) s.heap h' → C2 h' e → Q () { s with heap := h' }) :
    wpAny M A (do let a ← frameOf env; let pl ← entryPlaceOf L hadNext; let b ← EntryCells.newEntry head a .none (rawInt L) .none pl; setField (.ref e) 1 b) Q E s := by
  have nf : e ∉ (env :: outer).filterMap (·.frame) := fun m => by
    obtain ⟨_, o, q, n⟩ := FF.mem m
    exact nofields a1 a4 q n rfl
  refine wpAny_bind (wpAny_frameOf_fun fr FF ef fun g sg => wpAny_bind (wpAny_entryPlaceOf fun pl ip => ?_))
  unfold EntryCells.newEntry newFields
  refine wpAny_bind (wpAny_newObj_type (wpAny_setField (Heap.get?_push_of_some _ ((sg.2.1 e nf).trans a1)) a4 a5 ?_) (ip.sizeOk5 _ _ _ _ _))
  have nh := noted_heap (ob := { cls := .type "traceback", dict := none, data := .fields ([head, .ref L, .none, rawInt L, .none] ++ (if pl.isEmpty then List.replicate 6 Value.none else pl)).toArray }) FF sg a1 a2 a3 a4 a5 a6 a7 rfl (fl := rawInt L) (by simp)
  exact k _ nh.1 nh.2
theorem flightC {l : List Env} {cls a0 fl : Value} (a2 : base.StaysIn s.heap) (FF : s.heap.FunFrames base l) (tr : s.heap.TracedAtW base e cls a0 fl) (c2 : C2 s.heap e)
    (k : ∀ h', base.StaysIn h' → h'.FunFrames base l → h'.TracedW base e cls a0 → C2 h' e → s.heap.UpToSlots h' → Q () { s with heap := h' }) : wpAny M A (setFlight (.ref e) none) Q E s := by
  obtain ⟨oe, vs, t, ot, ts, q1, q2, q3, q4, q5, q6, q7, q8, q9⟩ := tr
  obtain ⟨o', us, c1, c3, c4⟩ := c2
  rw [q1] at c1
  cases c1
  rw [q3] at c3
  cases c3
  unfold setFlight
  refine wpAny_bind (wpAny_field q1 q3 q4 ?_)
  have nn : (Value.ref t != Value.none) = true := by simp
  rw [if_pos nn]
  have lt3 := (Array.getElem?_eq_some_iff.mp q9).1
  have ot' : ∀ {b : Addr}, b ≠ t → (s.heap.update t (Obj.mapFields (·.setIfInBounds 3 ((none : Option Addr).elim Value.none fun f => rawInt f)))).get? b = s.heap.get? b := fun {b} n => Heap.get?_update_other _ _ (Ne.symm n)
  have df := Obj.data_mapFields q8 (·.setIfInBounds 3 ((none : Option Addr).elim Value.none fun f => rawInt f))
  refine wpAny_setField q7 q8 lt3 (k _ (fun b o q => (ot' fun z => by rw [z, q5] at q; cases q).trans (a2 b o q)) (FF.of_keeps fun b o q n => ⟨o, (ot' (nofields q7 q8 q n)).trans q, rfl⟩)
    ⟨oe, vs, t, _, _, (ot' (Ne.symm q6)).trans q1, q2, q3, q4, q5, q6, Heap.get?_update_self _ q7 (Obj.isFreed_of_fields df), df, ?_⟩ ⟨oe, vs, (ot' (Ne.symm q6)).trans q1, q3, c4⟩ fun b o q n => ⟨o.slots, (ot' (nofields q7 q8 q n)).trans q⟩)
  rw [Array.getElem?_setIfInBounds_self_of_lt lt3]; rfl
theorem leaves_madeC {h : Heap} {cls : Value} {args : List Value} (fr : A.frames = some (env :: outer)) (ef : env.frame = some L) (a2 : base.StaysIn h) (FF : h.FunFrames base (env :: outer)) (mk : Heap.MadeExcOf h s.heap e cls args)
    (k : ∀ h' a0, Heap.FlyingW base outer e cls a0 h' → C2 h' e → s.heap.UpToSlots h' → Q () { s with heap := h' }) : wpAny M A (leaving env (.ref e)) Q E s := by
  obtain ⟨t, m1, m2, m3⟩ := mk.there
  have out : base.get? e = none := by
    cases z : base.get? e with
    | none => rfl
    | some o => have := a2 e o z; rw [mk.new] at this; cases this
  have FF1 : s.heap.FunFrames base (env :: outer) := FF.of_keeps fun b o q _ => ⟨o, mk.keeps b o q, rfl⟩
  unfold leaving noteFrame
  simp only [ef]
  refine wpAny_bind (wpAny_bind (wpAny_field m1 rfl (x := .none) rfl ?_))
  have nn : ¬ ((Value.none != Value.none) = true) := by decide
  rw [if_neg nn]
  refine entryC fr FF1 ef m1 (fun b o q => mk.keeps b o (a2 b o q)) out rfl (by show 1 < 6; decide) (a0 := .ref t) rfl rfl fun h1 nd c1 => ?_
  obtain ⟨n1, n2, n3, n4⟩ := nd
  exact flightC (s := { s with heap := h1 }) n1 n2 n3 c1 fun h2 w1 w2 w3 w4 w5 => k h2 _ ⟨w1, out, w2.2.2, w3⟩ w4 (Heap.UpToSlots.trans (h₂ := h1) n4 w5)
theorem looksC {cls a0 : Value} (fr : A.frames = some (env :: outer)) (ef : env.frame = some L) (fly : Heap.FlyingW base (env :: outer) e cls a0 s.heap) (c2 : C2 s.heap e)
    (k : ∀ h', Heap.HeldW base (env :: outer) e cls a0 L h' → C2 h' e → s.heap.UpToSlots h' → Q () { s with heap := h' }) : wpAny M A (noteFrame (.ref e) env) Q E s := by
  obtain ⟨f1, f2, f3, oe, vs, t, ot, ts, q1, ⟨q2, q2'⟩, q3, q4, q5, q6, q7, q8, q9⟩ := fly
  obtain ⟨o', us, c1, c3, c4⟩ := c2
  rw [q1] at c1
  cases c1
  rw [q3] at c3
  cases c3
  subst q2
  unfold noteFrame
  simp only [ef]
  refine wpAny_bind (wpAny_field q1 q3 q4 ?_)
  have nn : (Value.ref t != Value.none) = true := by simp
  have n3 : ¬ ((Value.none == rawInt L) = true) := by simp [rawInt]
  rw [if_pos nn]
  refine wpAny_bind (wpAny_field q7 q8 q9 ?_)
  rw [if_neg n3]
  have ot' : ∀ {b : Addr}, b ≠ t → (s.heap.update t (Obj.mapFields (·.setIfInBounds 3 Value.none))).get? b = s.heap.get? b := fun {b} n => Heap.get?_update_other _ _ (Ne.symm n)
  refine wpAny_bind (wpAny_setField q7 q8 (Array.getElem?_eq_some_iff.mp q9).1 ?_)
  refine entryC fr (f3.of_keeps fun b o q n => ⟨o, (ot' (nofields q7 q8 q n)).trans q, rfl⟩) ef ((ot' (Ne.symm q6)).trans q1) (fun b o q => (ot' fun z => by rw [z, q5] at q; cases q).trans (f1 b o q)) f2 q3 (Array.getElem?_eq_some_iff.mp q4).1 q2' c4 fun h1 nd cc => ?_
  exact k h1 ⟨nd.1, f2, nd.2.1, nd.2.2.1⟩ cc fun b o q n => nd.2.2.2 b o ((ot' (nofields q7 q8 q n)).trans q) n
theorem landsC {l : List Env} {cls a0 : Value} (hd : Heap.HeldW base l e cls a0 L s.heap) (c2 : C2 s.heap e)
    (k : ∀ h', Heap.FlyingW base l e cls a0 h' → C2 h' e → s.heap.UpToSlots h' → Q () { s with heap := h' }) : wpAny M A (setFlight (.ref e) none) Q E s :=
  flightC hd.1 hd.2.2.1 hd.2.2.2 c2 fun h' w1 w2 w3 w4 w5 => k h' ⟨w1, hd.2.1, w2, w3⟩ w4 w5
theorem landsC2 {l : List Env} {cls a0 : Value} (fl : Heap.FlyingW base l e cls a0 s.heap) (c2 : C2 s.heap e)
    (k : ∀ h', Heap.FlyingW base l e cls a0 h' → C2 h' e → s.heap.UpToSlots h' → Q () { s with heap := h' }) : wpAny M A (setFlight (.ref e) none) Q E s :=
  flightC fl.1 fl.2.2.1 fl.2.2.2.at c2 fun h' w1 w2 w3 w4 w5 => k h' ⟨w1, fl.2.1, w2, w3⟩ w4 w5
theorem leaves_new {oe : Obj} {vs : Array Value} {a0 : Value} (fr : A.frames = some (env :: outer)) (ef : env.frame = some L) (a1 : s.heap.get? e = some oe) (a2 : base.StaysIn s.heap) (FF : s.heap.FunFrames base (env :: outer)) (a3 : base.get? e = none)
    (a4 : oe.data = .fields vs) (a5 : vs[1]? = some .none) (a6 : vs[0]? = some a0) (k : ∀ h', Heap.FlyingW base outer e oe.cls a0 h' → s.heap.UpToSlots h' → Q () { s with heap := h' }) : wpAny M A (leaving env (.ref e)) Q E s :=
  wpAny_leaving_firstW fr FF ef a1 a2 a3 a4 a5 a6 fun h' lf => k h' ⟨lf.1, a3, lf.2.1.2.2, lf.2.2.1⟩ lf.2.2.2
end
end L2
set_option Elab.async false
set_option linter.all false
set_option maxRecDepth 100000
set_option maxHeartbeats 1000000
namespace L2
open PySem PySem.Spec PyProof.Rows
theorem unchain_entry : entryFor table "proto.unchain" = some Builtin.«proto.unchain» := entryFor_of_tree (by kernel_rfl)
section
variable {prog : Program} {w : World} {A : Around} {E : Value → Shared → Prop} {s : Shared}
theorem unchain_ok {e y : Addr} {Q : Value → Shared → Prop} (c2 : C2 s.heap y) (k : Q .none s) : wpAny (model prog w) A (runValue (.builtin "proto.unchain" ⟨[.ref e, .ref y, .ref y, .bool false], []⟩)) Q E s := by
  obtain ⟨o, vs, q1, q2, q3⟩ := c2
  refine wpAny_runValue (codeAny_builtin unchain_entry ?_)
  show wpAny _ _ (do let context ← field (.ref y) 2; _) _ _ _
  refine wpAny_bind (wpAny_field q1 q2 q3 ?_)
  have nn : ((Value.none == Value.none) = true) := by decide
  rw [if_pos nn]
  exact wpAny_pure k
theorem raiseNew_chained {α : Type} {e y : Addr} {oe : Obj} {vs : Array Value} {Q : α → Shared → Prop} (hh : A.handled = some (.ref y)) (ne : y ≠ e) (c2 : C2 s.heap y) (a1 : s.heap.get? e = some oe) (a2 : oe.data = .fields vs) (a3 : 2 < vs.size)
    (k : E (.ref e) { s with heap := s.heap.update e (Obj.mapFields (·.setIfInBounds 2 (.ref y))) }) : wpAny (model prog w) A (raiseNew (.ref e) : Sem α) Q E s := by
  unfold raiseNew
  refine wpAny_bind (wpAny_handled ?_)
  rw [hh]
  have nn : ((Value.ref y != Value.ref e) = true) := by simp [ne]
  dsimp only
  rw [if_pos nn]
  refine wpAny_bind (wpAny_holding (unchain_ok c2 ?_))
  have up : wpAny (model prog w) A (setField (.ref e) 2 (.ref y)) (fun _ s' => wpAny (model prog w) A (throw (.ref e) : Sem α) Q E s') E s := wpAny_setField a1 a2 a3 (wpAny_throw k)
  exact wpAny_bind up
end
section
variable {prog : Program} {w : World} {A : Around} {E : Value → Shared → Prop} {env : Env}
variable {nm q : Str} {C N : Addr} {bs bm : List Value} {hdct : Bool} {sn : List Str} {sub : List Value} {ab : Bool} {col : Option Bool} {dd : Option Addr} {k0 k1 k2 k3 k5 : Option Value} {newId : String}
theorem raise_chained {s : Shared} {y : Addr} {x c : Sem Value} {Q : Flow → Shared → Prop} (hbase : bm.contains (.type "BaseException") = true) (hh : A.handled = some (.ref y))
    (h : wpAny (model prog w) A x (fun v s₁ => ∃ e t, v = .ref e ∧ s₁.heap.get? C = some (excClassObj nm q C N bs bm hdct sn sub ab col dd k0 k1 k2 k3 k5 newId) ∧
      s₁.heap.get? e = some { cls := .ref C, data := .fields #[.ref t, .none, .none, .none, .bool false, .none] } ∧ y ≠ e ∧ C2 s₁.heap y ∧ (∀ R : Value → Shared → Prop, R .none s₁ → wpAny (model prog w) A c R E s₁) ∧
      ∀ h', (∀ b, b ≠ e → h'.get? b = s₁.heap.get? b) → h'.get? e = some { cls := .ref C, data := .fields #[.ref t, .none, .ref y, .none, .bool true, .none] } → E (.ref e) { s₁ with heap := h' }) E s) :
    wpAny (model prog w) A (raiseStmt env (some x) (some c)) Q E s := by
  have cb : (Value.ref C :: bm).contains (.type "BaseException") = true := by rw [List.contains_cons, hbase, Bool.or_true]
  unfold raiseStmt
  refine wpAny_bind (wpAny_mono h (fun v s₁ h₁ => ?_) fun _ _ z => z)
  obtain ⟨e, t, rfl, hC, he, ne, c2, hc, k⟩ := h₁
  refine wpAny_bind (wpAny_holding (hc _ (wpAny_bind (wpAny_pure ?_))))
  obtain ⟨hp, g, d, tk, os⟩ := s₁
  repeat (first
    | with_reducible refine wpAny_loadPart_at he ?_
    | with_reducible refine wpAny_loadPart_at hC ?_
    | (with_reducible refine wpAny_isSubtype_exc hC ?_; rw [cb])
    | wp_step)
  have nC : C ≠ e := by
    rintro rfl
    have z := hC.symm.trans he
    simp [excClassObj] at z
  have u1 := Heap.get?_update_self (Obj.mapFields (·.setIfInBounds 3 Value.none)) he rfl
  have u2 := Heap.get?_update_self (Obj.mapFields (·.setIfInBounds 4 (Value.bool true))) u1 rfl
  have ot : ∀ b, b ≠ e → ((hp.update e (Obj.mapFields (·.setIfInBounds 3 Value.none))).update e (Obj.mapFields (·.setIfInBounds 4 (Value.bool true)))).get? b = hp.get? b := fun b n => by
    rw [Heap.get?_update_other _ _ (Ne.symm n), Heap.get?_update_other _ _ (Ne.symm n)]
  have u3 := (ot C nC).trans hC
  have cy : C2 ((hp.update e (Obj.mapFields (·.setIfInBounds 3 Value.none))).update e (Obj.mapFields (·.setIfInBounds 4 (Value.bool true)))) y := by
    obtain ⟨o, vs, z1, z2, z3⟩ := c2
    exact ⟨o, vs, (ot y ne).trans z1, z2, z3⟩
  generalize (hp.update e (Obj.mapFields (·.setIfInBounds 3 Value.none))).update e (Obj.mapFields (·.setIfInBounds 4 (Value.bool true))) = h2 at u2 ot u3 cy ⊢
  refine wpAny_loadPart_at u3 (wpAny_pure ?_)
  have ty : ((excClassObj nm q C N bs bm hdct sn sub ab col dd k0 k1 k2 k3 k5 newId).cls == Value.type "type") = true := by rfl
  rw [if_pos ty]
  refine wpAny_pure ?_
  unfold setFlight
  refine wpAny_bind (wpAny_bind (wpAny_field u2 rfl (x := .none) rfl ?_))
  have nn : ¬ ((Value.none != Value.none) = true) := by decide
  rw [if_neg nn]
  refine wpAny_pure (raiseNew_chained hh ne cy u2 rfl (by show 2 < 6; decide) (k _ (fun b n => ?_) ?_))
  · rw [Heap.get?_update_other _ _ (Ne.symm n)]; exact ot b n
  · exact Heap.get?_update_self (Obj.mapFields (·.setIfInBounds 2 (.ref y))) u2 rfl
end
structure MadeR (h h' : Heap) (e C : Addr) : Prop where
  keeps : ∀ b o, h.get? b = some o → h'.get? b = some o
  new : h.get? e = none
  there : ∃ oe vs a0, h'.get? e = some oe ∧ oe.cls = .ref C ∧ oe.data = .fields vs ∧ vs[1]? = some .none ∧ vs[0]? = some a0
section
variable {prog : Program} {w : World} {A : Around} {E : Value → Shared → Prop} {env : Env}
variable {nm q : Str} {C N : Addr} {bs bm bmB : List Value} {hdct : Bool} {sn : List Str} {sub : List Value} {ab : Bool} {col : Option Bool} {dd : Option Addr} {k0 k1 k2 k3 k5 : Option Value} {B newId initId : String}
theorem exec_rz (F : ExcBaseFacts B newId initId bmB) {mN : Str → Option Value} {s : Shared} {x m : Str} {np mp cpos pos cp : Pos} {j j' : Nat} {y : Addr} {Q : Flow → Shared → Prop} (hb : bm.contains (.type "BaseException") = true) (hh : A.handled = some (.ref y)) (c2 : C2 s.heap y)
    (hx : ∀ R : Value → Shared → Prop, R (.ref C) s → wpAny (model prog w) A (eval (.Name x np) env) R E s) (hC : s.heap.get? C = some (excClassObj nm q C N bs bm hdct sn sub ab col dd k0 k1 k2 k3 k5 newId)) (hN : s.heap.Ns N mN) (hni : mN "__init__" = none) (T : OwnTail s.heap bmB bm)
    (k : ∀ h' e tk, MadeR s.heap h' e C → E (.ref e) { s with heap := h', toks := tk }) :
    wpAny (model prog w) A (exec (.Raise (some (.Call (.Name x np) [.Constant (.str m) j mp] [] cpos)) (some (.Constant .none j' cp)) pos) env) Q E s := by
  rw [arm_exec_Raise]
  refine wpAny_bind (wpAny_standAt ?_)
  refine raise_chained (y := y) (C := C) (nm := nm) (q := q) (N := N) (bs := bs) (bm := bm) (hdct := hdct) (sn := sn) (sub := sub) (ab := ab) (col := col) (dd := dd) (k0 := k0) (k1 := k1) (k2 := k2) (k3 := k3) (k5 := k5) (newId := newId) hb hh ?_
  refine wpAny_bind (wpAny_Call_ofName (hx _ ?_))
  unfold callWith
  refine wpAny_bind (wpAny_holding (Calls.evalArgs_plain (Calls.spliced_cons (Calls.Constant_str (k := j) (pos := mp) (Calls.spliced_nil ?_)))))
  refine wpAny_bind (wpAny_standAt ?_)
  have st : (((backTo cpos (starEach [Expr.Constant (Const.str m) j mp] env)).any fun x => x.fst) || (backToKw cpos (keywordEach [] env)).any fun x => x.fst.isNone) = false := rfl
  simp only [st]
  obtain ⟨hp, g, d, tk, os⟩ := s
  refine wpAny_bind (wpAny_keeperOf_exc hC ?_)
  dsimp only
  have one : ([] ++ [Value.str m tk]).length ≤ sizeLine := by show 1 ≤ sizeLine; decide
  refine wpAny_bind (wpAny_call_exc_subT (hrest := one) F T hC hN hni fun h' e hm => wpAny_bind (wpAny_holding (wpAny_point (wpAny_pure ?_))))
  refine wpAny_bind (wpAny_standAt (wpAny_pure ?_))
  obtain ⟨t, h1, h2, h3⟩ := hm.there
  have ny : y ≠ e := by
    rintro rfl
    obtain ⟨o, vs, z1, _⟩ := c2
    have := hm.new
    rw [z1] at this; cases this
  refine ⟨e, t, rfl, hm.keeps _ _ hC, h1, ny, ?_, fun R hR => wpAny_bind (wpAny_Constant_none (wpAny_bind (wpAny_standAt (wpAny_pure hR)))), fun h'' o1 o2 => ?_⟩
  · obtain ⟨o, vs, z1, z2, z3⟩ := c2
    exact ⟨o, vs, hm.keeps _ _ z1, z2, z3⟩
  · refine k h'' e (tk + 1) ⟨fun b o z => ?_, hm.new, ⟨_, _, _, o2, rfl, rfl, rfl, rfl⟩⟩
    rw [o1 b (fun z1 => by have := hm.new; rw [← z1, z] at this; cases this)]
    exact hm.keeps b o z
end
end L2
set_option Elab.async false
set_option linter.all false
set_option maxRecDepth 100000
set_option maxHeartbeats 1000000
namespace L2
open PySem PySem.Spec PyProof.Rows
def CXE2 (P : Program) (w : World) : CXT := fun outer H s E e s' => ∃ (x C : Addr) (a0 : Value) (H' : Hp) (B : Heap), e = .ref x ∧ s'.os = s.os ∧ AllBare s'.gens ∧ Heap.FlyingW B outer x (.ref C) a0 s'.heap ∧ C2 s'.heap x ∧
  (∀ h', B.StaysIn h' → s'.heap.UpToSlots h' → Un (frs outer) [] H H' s.heap h' ∧ HOk P w H' h') ∧ s.heap.get? x = none ∧ H' x = none ∧ E (.ref C) none H'
section
variable {P : Program} {w : World} {K : PySem.W.Frag} {mg : Str → Option Value} {base : Heap} {N : List Str} {qual : Str} {scope : Scope} {f : Addr} {cd : Value} {A : Around} {outer : List Env} {s : Shared} {H : Hp} {E : XK} {CX : CXT}
theorem clo_new {pins : List (Addr × Obj)} {σ : St} {H1 : Hp} {s1 : Shared} {h' h2 : Heap} (I : Inv (cxOf CX P w K mg base N qual scope f cd A outer s H E) pins σ H1 s1) (kp : ∀ b o, s1.heap.get? b = some o → h'.get? b = some o) (f4 : h'.UpToSlots h2) :
    ∀ h3, (PySem.W.hideAll s1.heap (frs (envOfC qual scope s.heap.objs.size f cd :: outer))).StaysIn h3 → h2.UpToSlots h3 → Un (frs outer) [] H H1 s.heap h3 ∧ HOk P w H1 h3 := by
  intro h3 st sm
  have hst : ∀ b ∈ frs (envOfC qual scope s.heap.objs.size f cd :: outer), H1 b = none := I.stkFree
  have FF : s1.heap.FunFrames base (envOfC qual scope s.heap.objs.size f cd :: outer) := I.stack
  have old : ∀ b o, s.heap.get? b = some o → b ≠ s.heap.objs.size := fun b o e => Nat.ne_of_lt (Heap.lt_size e)
  have sub : ∀ b, b ∈ frs (envOfC qual scope s.heap.objs.size f cd :: outer) → b = s.heap.objs.size ∨ b ∈ frs outer := fun b hb => List.mem_cons.mp (I.stkSub b hb)
  have here : ∀ b o, s1.heap.get? b = some o → b ∉ frs (envOfC qual scope s.heap.objs.size f cd :: outer) → h3.get? b = some o := fun b o e n => st b o (PySem.W.hideAll_get _ e n)
  have fram : ∀ b o, s1.heap.get? b = some o → b ∈ frs (envOfC qual scope s.heap.objs.size f cd :: outer) → ∃ sl, h3.get? b = some { o with slots := sl } := fun b o e m => by
    obtain ⟨_, o', e', nf⟩ := FF.mem m
    have z : o' = o := Option.some.inj (e'.symm.trans e)
    subst z
    obtain ⟨sl, e2⟩ := f4 b o' (kp b o' e) nf
    obtain ⟨sl', e3⟩ := sm b _ e2 nf
    exact ⟨sl', e3⟩
  refine ⟨⟨fun b o e n hb hx => ?_, fun b o e n hb hx => ?_, fun b o e n hx => I.base.free b o e n hx, fun b o e hx => ?_, I.base.tups, I.base.frzs, I.base.tbls⟩, fun a u e => ?_⟩
  · exact here b o (I.base.keep b o e n hb hx) fun z => (sub b z).elim (old b o e) hb
  · obtain ⟨sl, e1⟩ := I.base.slot b o e n hb hx
    have mem : b ∈ frs (envOfC qual scope s.heap.objs.size f cd :: outer) := by
      show b ∈ List.filterMap _ _
      rw [List.filterMap_cons]
      exact List.mem_cons_of_mem _ hb
    obtain ⟨sl', e2⟩ := fram b _ e1 mem
    exact ⟨sl', e2⟩
  · obtain ⟨o', e1⟩ := I.base.there b o e hx
    by_cases mem : b ∈ frs (envOfC qual scope s.heap.objs.size f cd :: outer)
    · obtain ⟨sl, e2⟩ := fram b o' e1 mem
      exact ⟨_, e2⟩
    · exact ⟨o', here b o' e1 mem⟩
  · refine (I.hok a u e).stay (fun b ob hb eb => here b ob eb fun z => ?_) (fun _ z => z) (fun _ _ z => z)
    have := hst b z
    rcases hb with rfl | hb
    · rw [e] at this; cases this
    · rw [hb] at this; cases this
theorem new_at {pins : List (Addr × Obj)} {σ : St} {H1 : Hp} {s1 : Shared} {x : Addr} (I : Inv (cxOf CX P w K mg base N qual scope f cd A outer s H E) pins σ H1 s1) (nw : s1.heap.get? x = none) : s.heap.get? x = none ∧ H1 x = none := by
  constructor
  · cases z : s.heap.get? x with
    | none => rfl
    | some o =>
      obtain ⟨o', e1⟩ := I.base.there x o z (fun h => nomatch h)
      rw [nw] at e1; cases e1
  · cases z : H1 x with
    | none => rfl
    | some o =>
      obtain ⟨ob, e1⟩ := (I.hok x o z).is
      rw [nw] at e1; cases e1
theorem frames_hide {pins : List (Addr × Obj)} {σ : St} {H1 : Hp} {s1 : Shared} (I : Inv (cxOf CX P w K mg base N qual scope f cd A outer s H E) pins σ H1 s1) : s1.heap.FunFrames (PySem.W.hideAll s1.heap (frs (envOfC qual scope s.heap.objs.size f cd :: outer))) (envOfC qual scope s.heap.objs.size f cd :: outer) := by
  have FF : s1.heap.FunFrames base (envOfC qual scope s.heap.objs.size f cd :: outer) := I.stack
  exact PySem.W.funFrames_hide FF fun env he b hb => List.mem_filterMap.mpr ⟨env, he, hb⟩
theorem leaves_made2 {pins : List (Addr × Obj)} {σ : St} {H1 : Hp} {s1 : Shared} {h' : Heap} {x C : Addr} {args : List Value}
    (I : Inv (cxOf (CXE2 P w) P w K mg base N qual scope f cd A outer s H E) pins σ H1 s1) (hm : Heap.MadeExcOf s1.heap h' x (.ref C) args) (q : E (.ref C) none H1) :
    (cxOf (CXE2 P w) P w K mg base N qual scope f cd A outer s H E).xe (.ref x) { s1 with heap := h' } := by
  have nw := new_at I hm.new
  refine leaves_madeC (s := { s1 with heap := h' }) (base := PySem.W.hideAll s1.heap (frs (envOfC qual scope s.heap.objs.size f cd :: outer))) I.ok.frames rfl (fun b o e => PySem.W.of_hideAll _ e) (frames_hide I) hm fun h2 a0 f1 f2 f4 => ?_
  exact ⟨x, C, a0, H1, _, rfl, I.os, I.bare, f1, f2, clo_new I hm.keeps f4, nw.1, nw.2, q⟩
theorem leaves_r {pins : List (Addr × Obj)} {σ : St} {H1 : Hp} {s1 : Shared} {h' : Heap} {x C : Addr} {tk : Nat}
    (I : Inv (cxOf (CXE P w) P w K mg base N qual scope f cd A outer s H E) pins σ H1 s1) (hm : MadeR s1.heap h' x C) (q : E (.ref C) none H1) :
    (cxOf (CXE P w) P w K mg base N qual scope f cd A outer s H E).xe (.ref x) { s1 with heap := h', toks := tk } := by
  have nw := new_at I hm.new
  obtain ⟨oe, vs, a0, m1, m2, m3, m4, m5⟩ := hm.there
  have FF := frames_hide I
  have bs : (PySem.W.hideAll s1.heap (frs (envOfC qual scope s.heap.objs.size f cd :: outer))).StaysIn s1.heap := fun b o e => PySem.W.of_hideAll _ e
  have bx : (PySem.W.hideAll s1.heap (frs (envOfC qual scope s.heap.objs.size f cd :: outer))).get? x = none := by
    cases z : (PySem.W.hideAll s1.heap (frs (envOfC qual scope s.heap.objs.size f cd :: outer))).get? x with
    | none => rfl
    | some o => have := bs x o z; rw [hm.new] at this; cases this
  refine leaves_new (s := { s1 with heap := h', toks := tk }) (base := PySem.W.hideAll s1.heap (frs (envOfC qual scope s.heap.objs.size f cd :: outer))) I.ok.frames rfl m1 (fun b o e => hm.keeps b o (bs b o e)) (FF.of_keeps fun b o e _ => ⟨o, hm.keeps b o e, rfl⟩) bx m3 m4 m5 fun h2 f1 f4 => ?_
  rw [m2] at f1
  exact ⟨x, C, a0, H1, _, rfl, I.os, I.bare, f1, clo_new I hm.keeps f4, nw.1, nw.2, q⟩
end
def TakesR (X : Cx) (E : XK) : Prop := ∀ (pins : List (Addr × Obj)) (σ : St) (H : Hp) (s : Shared) (h' : Heap) (x C : Addr) (tk : Nat), Inv X pins σ H s → MadeR s.heap h' x C → E (.ref C) none H → X.xe (.ref x) { s with heap := h', toks := tk }
theorem takes_r {P : Program} {w : World} {K : PySem.W.Frag} {mg : Str → Option Value} {base : Heap} {N : List Str} {qual : Str} {scope : Scope} {f : Addr} {cd : Value} {A : Around} {outer : List Env} {s : Shared} {H : Hp} {E : XK} : TakesR (cxOf (CXE P w) P w K mg base N qual scope f cd A outer s H E) E :=
  fun pins σ H s h' x C tk I hm q => leaves_r I hm q
theorem Fun.okX2 {P : Program} {w : World} {K : PySem.W.Frag} {mg : Str → Option Value} {base : Heap} {x qual : Str} {st : Stmt} {f : Addr} {fd : FuncData} {N ps : List Str} {k : Nat} {sp : Sp} (F : Fun K x qual st f fd) (S : FnScope N ps (defScope st)) (len : ∀ vs H Q E, sp vs H Q E → vs.length = ps.length)
    (hbody : ∀ (cdv : Value) (A : Around) (outer : List Env) (s : Shared) (H : Hp) (vs : List V) (Q : VK) (E : XK), Room k (A.deeper (envOfC qual (defScope st) s.heap.objs.size f cdv)) → sp vs H Q E →
      Takes (cxOf (CXE2 P w) P w K mg base N qual (defScope st) f cdv A outer s H E) E → ∃ t, PSs (cxOf (CXE2 P w) P w K mg base N qual (defScope st) f cdv A outer s H E) (defBody st) t ∧ t { nx := fun _ H' => Q .non H', rt := Q } (start N vs) H) : FnOk P w K mg base (CXE2 P w) (k + 1) f fd ps sp := by
  obtain ⟨oc, od, kV, doc, pm, an, cdv, ct, osl, rfl, lk, hcd⟩ := F.ex
  exact fn_of lk hcd S len fun A outer s H vs Q E hr hsp => hbody cdv A outer s H vs Q E hr hsp fun pins σ H s h' x C args I hm q => leaves_made2 I hm q
theorem FnOk.of2 {P : Program} {w : World} {K : PySem.W.Frag} {mg : Str → Option Value} {base : Heap} {k : Nat} {f : Addr} {fd : FuncData} {ps : List Str} {sp : Sp} (F : FnOk P w K mg base (CXE2 P w) k f fd ps sp) : FnOk P w K mg base (CXE P w) k f fd ps sp :=
  ⟨F.len, fun A outer s H args us vs Q E hr he hb hv hs => codeAny_mono (F.run A outer s H args us vs Q E hr he hb hv hs) fun r s' hq => by
    cases r with
    | ok fl => cases fl <;> exact hq
    | error e =>
      obtain ⟨x, C, a0, H', B, z1, z2, z3, z4, _, z5⟩ := hq
      exact ⟨x, C, a0, H', B, z1, z2, z3, z4, z5⟩⟩
def HasX2 (P : Program) (w : World) (K : PySem.W.Frag) (mg : Str → Option Value) (base : Heap) (x : Str) (k : Nat) (ps : List Str) (sp : Sp) : Prop :=
  ∃ (f : Addr) (fd : FuncData), FnOk P w K mg base (CXE2 P w) k f fd ps sp ∧ mg x = some (.ref f) ∧ PySem.W.keepIn K (.ref f) = true ∧ Binds K fd ps []
def XP2 (X : Cx) (pins : List (Addr × Obj)) (σ : St) (E : XK) (e : Value) (s' : Shared) : Prop := ∃ H1 s1, Inv X pins σ H1 s1 ∧ CXE2 X.prog X.w X.stack H1 s1 E e s'
def Cx.tr2 (X : Cx) (pins : List (Addr × Obj)) (σc : St) (E : XK) : Cx := { X with pn := X.pn ++ pins, xe := XP2 X pins σc E }
section
variable {X : Cx} {pins pins0 : List (Addr × Obj)} {σ σc : St} {H : Hp} {s : Shared} {E : XK}
theorem Cx.Ok.tr2 (ok : X.Ok) : (X.tr2 pins σc E).Ok := ⟨ok.mod, ok.kind, ok.glob, ok.blt, ok.above, ok.inj, ok.has, ok.cab, ok.hd, ok.frames, ok.stk, ok.exf, ok.bs, ok.bsz, ok.noex, ok.exfs, ok.funs, ok.frf⟩
theorem Cx.Ok.untr2 (ok : (X.tr2 pins σc E).Ok) : X.Ok := ⟨ok.mod, ok.kind, ok.glob, ok.blt, ok.above, ok.inj, ok.has, ok.cab, ok.hd, ok.frames, ok.stk, ok.exf, ok.bs, ok.bsz, ok.noex, ok.exfs, ok.funs, ok.frf⟩
theorem Inv.tr2 (I : Inv X pins σ H s) : Inv (X.tr2 pins σc E) [] σ H s := ⟨I.ok.tr2, I.os, I.bare, I.base, I.loc, I.cell, I.free, I.freeC, fun p hp => I.pin p (by simpa [Cx.tr2] using hp), I.hok, I.len⟩
theorem Inv.untr2 (I : Inv (X.tr2 pins0 σc E) pins σ H s) : Inv X pins0 σ H s := ⟨I.ok.untr2, I.os, I.bare, I.base, I.loc, I.cell, I.free, I.freeC, fun p hp => I.pin p (List.mem_append_left _ hp), I.hok, I.len⟩
theorem SP.untr2 {D : Ends} {f : Flow} {s' : Shared} (h : SP (X.tr2 pins0 σc E) pins D f s') : SP X pins0 D f s' := by
  cases f with
  | next => obtain ⟨σ', H', I, q⟩ := h; exact ⟨σ', H', I.untr2, q⟩
  | brk => obtain ⟨σ', H', I, q⟩ := h; exact ⟨σ', H', I.untr2, q⟩
  | cont => obtain ⟨σ', H', I, q⟩ := h; exact ⟨σ', H', I.untr2, q⟩
  | ret u => obtain ⟨v, σ', H', I, r, q⟩ := h; exact ⟨v, σ', H', I.untr2, r, q⟩
end
section
variable {X : Cx} {pins0 : List (Addr × Obj)} {σc : St} {k n : Nat} {C : Addr} {ps : List Str} {sp : Sp} {E : XK} {x m : Str} {p np pos apos : Pos} {e o : Expr} {es : List Expr} {ta : TE} {t : TA}
theorem run_fnT2 {pins : List (Addr × Obj)} {σ : St} {H : Hp} {s : Shared} {Q : VK} {us : List Value} {vs : List V} {f : Addr} {fd : FuncData} (F : FnOk X.prog X.w X.K X.mg X.base (CXE2 X.prog X.w) k f fd ps sp) (hr : Room k X.A) (hb : Binds X.K fd ps [])
    (I : Inv (X.tr2 pins0 σc E) pins σ H s) (r : Vals vs us) (wk : Wk σc σ) (h : sp (vs ++ []) H Q E) : wpAny (model X.prog X.w) X.A (call (.ref f) us) (EP (X.tr2 pins0 σc E) pins σ Q) (X.tr2 pins0 σc E).xe s := by
  have r2 : Vals (vs ++ []) (us ++ []) := r.append .nil
  have hl : (us ++ []).length = ps.length := by rw [← r2.length]; exact F.len _ _ _ _ h
  have e0 : Env0 X.prog X.w X.K X.mg X.base X.A X.stack s H := I.env0
  refine wpAny_call (codeAny_mono (F.run X.A X.stack s H ⟨us, []⟩ (us ++ []) (vs ++ []) Q E hr e0 (hb s us I.kIn hl) r2 h) fun r s' hq => ?_)
  cases r with
  | error e => exact ⟨H, s, I.untr2.weak wk.1 wk.2, hq⟩
  | ok fl =>
    cases fl with
    | ret u => exact I.after hq
    | next => exact False.elim hq
    | brk => exact False.elim hq
    | cont => exact False.elim hq
theorem pe_callT2 (F : HasX2 X.prog X.w X.K X.mg X.base x k ps sp) (hr : Room n X.A) (hg : Gl X x) (ha : PA (X.tr2 pins0 σc E) (e :: es) t) (hk : k ≤ n := by decide)
    (hdb : (x == ("__debug__" : Str)) = false := by decide) (he : starEach (e :: es) X.env = (false, eval e X.env) :: starEach es X.env := by rfl) (hpl : (backTo pos (starEach es X.env)).any (·.1) = false := by rfl) :
    PE (X.tr2 pins0 σc E) (.Call (.Name x p) (e :: es) [] pos) (tCallT sp E σc t) := by
  intro pins s σ H Q I h
  obtain ⟨f, fd, G, hm, kp, b⟩ := F
  refine wpAny_Call_Name_kw (ld_glob I hg hm ?_ hdb)
  refine PySem.W.callWith_K (h₀ := X.base) I.ok.mod.kin kp (thn (ha pos pins s σ H _ I h) fun us s1 ⟨vs, H1, I1, r, q⟩ => ⟨I1.kIn, ?_⟩) he hpl
  exact run_fnT2 (G.mono hk) hr b I1 r q.1 q.2
end
def tTryR (K : PySem.W.Frag) (C1 C2 CR : Addr) (E : XK) (tb : St → XK → TS) : TS := fun D σ H => ∃ σc, tb σc (fun cls _ H2 => ∃ C, cls = .ref C ∧ PySem.W.exmAny K (.ref C) [.ref C1, .ref C2] = some true ∧ E (.ref CR) none H2) D σ H
theorem ps_tryR {X : Cx} {c1 c2 cx msg : Str} {C1 C2' CR : Addr} {E : XK} {p1 p2 tpos np mp cpos cp rpos hpos pos : Pos} {kk j j' : Nat} {body : List Stmt} {tb : St → XK → TS}
    (hst : X.stack = X.env :: X.outer) (hfr : X.env.frame = some X.env.locals) (hc : X.calm = true) (ce : Exc X.K CR) (tk : TakesR X E) (po : ∀ hd, PassesOwnAt (model X.prog X.w) (X.A.mark hd) X.A X.env X.xe)
    (g1 : Gl X c1) (m1 : X.mg c1 = some (.ref C1)) (g2 : Gl X c2) (m2 : X.mg c2 = some (.ref C2')) (gr : Gl X cx) (mr : X.mg cx = some (.ref CR)) (hb : ∀ pins σc E, PSs (X.tr2 pins σc E) body (tb σc E))
    (d1 : (c1 == ("__debug__" : Str)) = false := by decide) (d2 : (c2 == ("__debug__" : Str)) = false := by decide) (dr : (cx == ("__debug__" : Str)) = false := by decide) :
    PS X (.Try body [.ExceptHandler (some (.Tuple [.Name c1 p1, .Name c2 p2] kk tpos)) none [.Raise (some (.Call (.Name cx np) [.Constant (.str msg) j mp] [] cpos)) (some (.Constant .none j' cp)) rpos] hpos] [] [] pos) (tTryR X.K C1 C2' CR E tb) := by
  intro pins s σ H D I h
  obtain ⟨σc, h⟩ := h
  refine wpAny_Try_except (wpAny_mono (hb pins σc _ [] s σ H D I.tr2 h) (fun f s1 q => ?_) fun er s' z => ?_)
  · cases f with
    | next => exact wpAny_execs_nil q.untr2
    | ret u => exact q.untr2
    | brk => exact q.untr2
    | cont => exact q.untr2
  · obtain ⟨H1, s1, I1, fl⟩ := z
    obtain ⟨y, C, a0, H2, B, rfl, hos, hbare, fly, cc, clo, hy0, hy2, C0, z0, exm, q⟩ := fl
    cases z0
    rw [hst] at fly
    refine looksC (I.ok.frames.trans (congrArg some hst)) hfr fly cc fun h1 held cc1 sm1 => ?_
    refine landsC held cc1 fun h2 fly2 cc2 sm2 => ?_
    have cl : ∀ h', B.StaysIn h' → h2.UpToSlots h' → Inv X pins σc H2 { s' with heap := h' } := fun h' st sm => by
      have c := clo h' st ((sm1.trans sm2).trans sm)
      exact I1.call' (s' := { s' with heap := h' }) hos c.1 c.2 hbare (fun b z => nomatch z)
    have I2 : Inv X pins σc H2 { s' with heap := h2 } := cl h2 fly2.1 (Heap.UpToSlots.refl _)
    have hhd : (X.A.mark (some (.ref y))).handled = some (.ref y) := rfl
    refine wpAny_handleBy_cons (codeAny_handlers_test ?_) (by intro q; cases q)
    refine wpAny_Tuple (wpAny_items_cons (ld_glob (I2.inExc y) g1 m1 (wpAny_items_cons (ld_glob (I2.inExc y) g2 m2 (wpAny_items_nil ⟨by size_fits, ?_⟩) d2)) d1))
    have kp : ∀ b o, h2.get? b = some o → (h2.push { cls := .type "tuple", data := .seq [Value.ref C1, Value.ref C2'].toArray }).get? b = some o := fun _ _ z => Heap.get?_push_of_some _ z
    have ty2 : PySem.W.Looks (model X.prog X.w) h2 (typeOf (.ref y)) (.ref C) := (isx fly2).ty
    refine (PySem.W.exm_tup2 (M := model X.prog X.w) (I2.kIn.keeps kp) (ty2.keeps kp) (Heap.get?_push_size h2 rfl) exm).here ?_
    have up : h2.UpToSlots (h2.push { cls := .type "tuple", data := .seq [Value.ref C1, Value.ref C2'].toArray }) := Heap.UpToSlots.of_keeps kp
    have fly3 : Heap.FlyingW B (X.env :: X.outer) y (.ref C) a0 (h2.push { cls := .type "tuple", data := .seq [Value.ref C1, Value.ref C2'].toArray }) := by
      obtain ⟨f1, f2, f3, oe, vs, t, ot, ts, q1, q2, q3, q4, q5, q6, q7, q8, q9⟩ := fly2
      exact ⟨fun b o z => kp b o (f1 b o z), f2, f3.of_keeps fun b o z _ => ⟨o, kp b o z, rfl⟩, oe, vs, t, ot, ts, kp _ _ q1, q2, q3, q4, q5, q6, kp _ _ q7, q8, q9⟩
    have cc3 : C2 (h2.push { cls := .type "tuple", data := .seq [Value.ref C1, Value.ref C2'].toArray }) y := by
      obtain ⟨o, vs, z1, z2, z3⟩ := cc2
      exact ⟨o, vs, kp _ _ z1, z2, z3⟩
    refine codeAny_handlers_suite (landsC2 fly3 cc3 fun h4 fly4 cc4 sm4 => ?_)
    have I4 : Inv X pins σc H2 { s' with heap := h4 } := cl h4 fly4.1 (up.trans sm4)
    obtain ⟨tl, Nn, nm, qq, bs, hdct, sn, sub, ab, col, dd, k0, k1, k2, k3, k5, mN, hC, hN, hni, T⟩ := exc_obj I4.kIn ce
    refine wpAny_passesOwnAt (po (some (.ref y))) (wpAny_execs_cons ?_)
    refine exec_rz (s := { s' with heap := h4 }) (C := CR) (bm := tl) (mN := mN) (N := Nn) (nm := nm) (q := qq) (bs := bs) (hdct := hdct) (sn := sn) (sub := sub) (ab := ab) (col := col) (dd := dd) (k0 := k0) (k1 := k1) (k2 := k2) (k3 := k3) (k5 := k5) PySem.F.excBase_ValueError (T.hasType PySem.F.excBase_ValueError.hasBase) hhd cc4 (fun R hR => ld_glob (I4.inExc y) gr mr hR dr) hC hN hni T fun h5 e5 tk5 mr5 => ?_
    exact tk pins σc H2 { s' with heap := h4 } h5 e5 CR tk5 I4 mr5 q
theorem r_tryR {K : PySem.W.Frag} {C1 C2 CR : Addr} {E : XK} {tb : St → XK → TS} {D : Ends} {σ : St} {H : Hp} (σc : St) (h : tb σc (fun cls _ H2 => ∃ C, cls = .ref C ∧ PySem.W.exmAny K (.ref C) [.ref C1, .ref C2] = some true ∧ E (.ref CR) none H2) D σ H) : tTryR K C1 C2 CR E tb D σ H := ⟨σc, h⟩
end L2
set_option Elab.async false
set_option linter.all false
set_option maxRecDepth 100000
set_option maxHeartbeats 1000000
namespace L2
open PySem PySem.Spec PyProof.Rows
theorem fv_inj {c d : Nat} (h : 0 ≤ fv c) (e : fv c = fv d) : c = d := by
  unfold fv at h e
  repeat' (split at h)
  all_goals repeat' (split at e)
  all_goals omega
theorem snoc_ind {P : List Nat → Prop} (h0 : P []) (hs : ∀ l c, P l → P (l ++ [c])) (l : List Nat) : P l := by
  have : ∀ n (l : List Nat), l.length = n → P l := fun n => by
    induction n with
    | zero => intro l h; rw [List.length_eq_zero_iff.mp h]; exact h0
    | succ n ih =>
      intro l h
      have ne : l ≠ [] := fun z => by rw [z] at h; cases h
      rw [← List.dropLast_concat_getLast ne]
      exact hs _ _ (ih _ (by rw [List.length_dropLast]; omega))
  exact this _ l rfl
theorem FigB.left {b : Int} {l m : List Nat} (h : FigB b (l ++ m)) : FigB b l := fun c hc => h c (List.mem_append_left _ hc)
theorem FigB.right {b : Int} {l m : List Nat} (h : FigB b (l ++ m)) : FigB b m := fun c hc => h c (List.mem_append_right _ hc)
theorem val_bd {b : Int} (hb : 2 ≤ b) (l : List Nat) : FigB b l → 0 ≤ val b l ∧ val b l < b ^ l.length := by
  refine snoc_ind (P := fun l => FigB b l → 0 ≤ val b l ∧ val b l < b ^ l.length) (fun _ => ⟨Int.le_refl 0, by show (0 : Int) < b ^ 0; rw [Int.pow_zero]; decide⟩) (fun l c ih h => ?_) l
  obtain ⟨i1, i2⟩ := ih h.left
  obtain ⟨_, c1, c2⟩ := h.right c (List.mem_singleton.mpr rfl)
  rw [val_app, List.length_append, List.length_singleton, Int.pow_succ]
  have m1 := Int.mul_le_mul_of_nonneg_right (show val b l ≤ b ^ l.length - 1 by omega) (show 0 ≤ b by omega)
  rw [Int.sub_mul, Int.one_mul] at m1
  have m2 := Int.mul_nonneg i1 (show 0 ≤ b by omega)
  omega
theorem val_inj {b : Int} (hb : 2 ≤ b) (l : List Nat) : ∀ k, FigB b l → FigB b k → l.length = k.length → val b l = val b k → l = k := by
  refine snoc_ind (P := fun l => ∀ k, FigB b l → FigB b k → l.length = k.length → val b l = val b k → l = k) (fun k _ _ h _ => (List.length_eq_zero_iff.mp h.symm).symm) (fun l c ih k hl hk he hv => ?_) l
  have ne : k ≠ [] := fun z => by rw [z, List.length_append] at he; cases he
  obtain ⟨k', d, rfl⟩ : ∃ k' d, k = k' ++ [d] := ⟨_, _, (List.dropLast_concat_getLast ne).symm⟩
  obtain ⟨_, c1, c2⟩ := hl.right c (List.mem_singleton.mpr rfl)
  obtain ⟨_, d1, d2⟩ := hk.right d (List.mem_singleton.mpr rfl)
  rw [val_app, val_app] at hv
  have q1 : (val b l * b + fv c) / b = val b l := by rw [Int.add_comm, Int.add_mul_ediv_right _ _ (by omega), Int.ediv_eq_zero_of_lt c1 c2, Int.zero_add]
  have q2 : (val b k' * b + fv d) / b = val b k' := by rw [Int.add_comm, Int.add_mul_ediv_right _ _ (by omega), Int.ediv_eq_zero_of_lt d1 d2, Int.zero_add]
  have e1 : val b l = val b k' := by rw [← q1, hv, q2]
  have e2 : fv c = fv d := by rw [e1] at hv; omega
  rw [List.length_append, List.length_append, List.length_singleton, List.length_singleton] at he
  rw [ih k' hl.left hk.left (by omega) e1, fv_inj c1 e2]
theorem val_lo {b : Int} (hb : 2 ≤ b) (l : List Nat) : FigB b l → 1 ≤ l.length → l.getD 0 0 ≠ 48 → b ^ (l.length - 1) ≤ val b l := by
  refine snoc_ind (P := fun l => FigB b l → 1 ≤ l.length → l.getD 0 0 ≠ 48 → b ^ (l.length - 1) ≤ val b l) (fun _ h => absurd h (by decide)) (fun l c ih h _ hn => ?_) l
  obtain ⟨_, c1, c2⟩ := h.right c (List.mem_singleton.mpr rfl)
  rw [val_app, List.length_append, List.length_singleton, Nat.add_sub_cancel]
  rcases Nat.eq_zero_or_pos l.length with z | z
  · have z' := List.length_eq_zero_iff.mp z
    subst z'
    have nc : c ≠ 48 := hn
    have : fv c ≠ fv 48 := fun e => nc (fv_inj c1 e)
    have e48 : fv 48 = 0 := by decide
    show b ^ 0 ≤ (0 : Int) * b + fv c
    rw [Int.pow_zero]
    omega
  · have i := ih h.left z (by rw [getD_app1 z] at hn; exact hn)
    have e : b ^ l.length = b ^ (l.length - 1) * b := by rw [← Int.pow_succ]; congr 1; omega
    have m1 := Int.mul_le_mul_of_nonneg_right i (show 0 ≤ b by omega)
    rw [e]; omega
theorem dgs_val {b p : Nat} {l : List Nat} (h2 : 2 ≤ b) (h16 : b ≤ 16) (hp : p ≤ 6) (hf : FigB b l) (h1 : p + 1 ≤ l.length) (h40 : l.length ≤ 40 + p) (hz : l.getD 0 0 = 48 → l.length = p + 1) : (val b l).toNat < b ^ (40 + p) ∧ dgs b p (val b l).toNat = l := by
  have hb : (2 : Int) ≤ (b : Int) := by omega
  obtain ⟨v0, v1⟩ := val_bd hb l hf
  have cp : ∀ k : Nat, ((b ^ k : Nat) : Int) = (b : Int) ^ k := fun k => by simp
  have mono : ∀ {j k : Nat}, j ≤ k → (b : Int) ^ j ≤ (b : Int) ^ k := fun {j k} h => by
    rw [← cp, ← cp]; exact Int.ofNat_le.mpr (Nat.pow_le_pow_right (by omega) h)
  have nb : (val b l).toNat < b ^ (40 + p) := by
    have a := mono h40
    have c := cp (40 + p)
    omega
  obtain ⟨d1, d2, d3, d4, d5⟩ := dgs_spec h2 h16 hp nb
  refine ⟨nb, ?_⟩
  have ev : val b (dgs b p (val b l).toNat) = val b l := by rw [d2]; omega
  obtain ⟨w0, w1⟩ := val_bd hb _ d1
  refine val_inj hb _ _ d1 hf ?_ ev
  generalize dgs b p (val b l).toNat = D at *
  rcases Nat.lt_trichotomy D.length l.length with z | z | z
  · have lo := val_lo hb l hf (by omega) (fun e => by have := hz e; omega)
    have m := mono (show D.length ≤ l.length - 1 by omega)
    omega
  · exact z
  · have lo := val_lo hb D d1 (by omega) (fun e => by have := d5 e; omega)
    have m := mono (show l.length ≤ D.length - 1 by omega)
    omega
def wpart (p : Nat) (t : List Nat) : List Nat := if p = 0 then t else t.take (t.length - p - 1)
def rpart (p : Nat) (t : List Nat) : List Nat := if p = 0 then [] else t.drop (t.length - p)
def WE (p pt : Nat) (t : List Nat) : Prop := p = 0 ∨ (p + 1 ≤ t.length ∧ t.getD (t.length - p - 1) 0 = pt)
def NZ (u : List Nat) : Prop := ¬ (1 < u.length ∧ u.getD 0 0 = 48)
def IsB (b : Int) (p pt z m : Nat) (t : List Nat) : Prop := WE p pt t ∧ GG z m (wpart p t) ∧ FigB b (ug z (wpart p t) ++ rpart p t) ∧ NZ (ug z (wpart p t))
def bval (b : Int) (p z : Nat) (t : List Nat) : Int := val b (ug z (wpart p t) ++ rpart p t)
theorem rpart_len {p pt : Nat} {t : List Nat} (h : WE p pt t) : (rpart p t).length = p := by
  unfold rpart
  rcases h with h | h
  · rw [if_pos h, h]; rfl
  · split
    · rename_i z; rw [z]; rfl
    · rw [List.length_drop]; omega
theorem part_join {p pt : Nat} {t : List Nat} (h : WE p pt t) : t = if p = 0 then wpart p t else wpart p t ++ [pt] ++ rpart p t := by
  rcases Nat.eq_zero_or_pos p with z | z
  · rw [if_pos z]; unfold wpart; rw [if_pos z]
  · rw [if_neg (by omega)]
    rcases h with h | ⟨h1, h2⟩
    · omega
    · unfold wpart rpart
      rw [if_neg (by omega), if_neg (by omega)]
      have lt : t.length - p - 1 < t.length := by omega
      have e1 : t.drop (t.length - p - 1) = pt :: t.drop (t.length - p) := by
        rw [List.drop_eq_getElem_cons lt, show t.length - p - 1 + 1 = t.length - p by omega]
        rw [List.getD_eq_getElem?_getD, List.getElem?_eq_getElem lt] at h2
        rw [show t[t.length - p - 1] = pt from h2]
      rw [List.append_assoc, show [pt] ++ t.drop (t.length - p) = t.drop (t.length - p - 1) from e1.symm, List.take_append_drop]
theorem isB_body {b p pt z m : Nat} {t : List Nat} (h2 : 2 ≤ b) (h16 : b ≤ 16) (hp : p ≤ 6) (h : IsB b p pt z m t) : 0 ≤ bval b p z t ∧ (bval b p z t).toNat < b ^ (40 + p) ∧ bdy b p pt z m (bval b p z t).toNat = t := by
  obtain ⟨w, g, f, n⟩ := h
  have rl := rpart_len w
  have jn := part_join w
  unfold bval
  generalize hU : ug z (wpart p t) = u at *
  generalize rpart p t = r at *
  have g1 := g.1; have g2 := g.2.1; have g3 := g.2.2
  rw [hU] at g1 g2 g3
  obtain ⟨v1, v2⟩ := dgs_val h2 h16 hp f (by rw [List.length_append]; omega) (by rw [List.length_append]; omega) (fun e => by
    rw [getD_app1 (by omega)] at e
    rw [List.length_append]
    have : ¬ 1 < u.length := fun z => n ⟨z, e⟩
    omega)
  refine ⟨(val_bd (by omega) _ f).1, v1, ?_⟩
  have ew : whl b p (val b (u ++ r)).toNat = u := by
    unfold whl; rw [v2, List.length_append, show u.length + r.length - p = u.length by omega, List.take_left]
  have er : rst b p (val b (u ++ r)).toNat = r := by
    unfold rst; rw [v2, List.length_append, show u.length + r.length - p = u.length by omega, List.drop_left]
  unfold bdy
  rw [ew, er, g3]
  exact jn.symm
theorem div_succ {n z : Nat} : (n + 1) / (z + 1) = n / (z + 1) + (if n % (z + 1) = z then 1 else 0) := by
  have d := Nat.div_add_mod n (z + 1)
  have lt := Nat.mod_lt n (show 0 < z + 1 by omega)
  generalize n / (z + 1) = q at *
  generalize n % (z + 1) = r at *
  subst d
  split
  · rename_i e
    rw [e, show (z + 1) * q + z + 1 = (z + 1) * (q + 1) by rw [Nat.mul_add, Nat.mul_one]; omega, Nat.mul_div_cancel_left _ (by omega)]
  · rw [Nat.add_assoc, Nat.mul_add_div (by omega), Nat.div_eq_of_lt (by omega)]
theorem UJ_len {z : Nat} (hz : 0 < z) (c : List Nat) : (UJ z c).length + c.length / (z + 1) = c.length := by
  refine snoc_ind (P := fun c => (UJ z c).length + c.length / (z + 1) = c.length) (by rw [UJ_nil]; simp) (fun l x ih => ?_) c
  rw [UJ_snoc hz l.length l (Nat.le_refl _), List.length_append, List.length_append, List.length_singleton, div_succ]
  split
  · show _ + 0 + _ = _; omega
  · show _ + 1 + _ = _; omega
theorem ug_count {z : Nat} (hz : 0 < z) (t : List Nat) : (ug z t).length + t.length / (z + 1) = t.length := by
  have := UJ_len hz t.reverse
  unfold ug
  rw [if_neg (by omega), List.length_reverse]
  rw [List.length_reverse] at this
  exact this
theorem GG.by_marks {z m : Nat} {t : List Nat} (h1 : 1 ≤ (ug z t).length) (h2 : (ug z t).length ≤ 40) (hm : 0 < z → ∀ k, k < t.length → (t.length - 1 - k) % (z + 1) = z → t.getD k 0 = m ∧ k ≠ 0) : GG z m t := by
  have ul := ug_len (z := z) (t := t)
  rcases Nat.eq_zero_or_pos z with p | p
  · subst p
    have e : ug 0 t = t := rfl
    rw [e] at h1 h2
    exact GG.of (many := t.length) h1 h2 (by rw [if_neg (by omega)]; rfl) (fun h => absurd h (by omega))
  · have n0 : t.length % (z + 1) ≠ 0 := fun e => by
      have e2 : (t.length - 1 - 0) % (z + 1) = z := by
        have d := Nat.div_add_mod t.length (z + 1)
        rw [e, Nat.add_zero] at d
        have q1 : 1 ≤ t.length / (z + 1) := by
          rcases Nat.eq_zero_or_pos (t.length / (z + 1)) with y | y
          · rw [y] at d; omega
          · exact y
        have e3 : t.length - 1 - 0 = z + (z + 1) * (t.length / (z + 1) - 1) := by
          rw [Nat.mul_sub, Nat.mul_one]
          have : z + 1 ≤ (z + 1) * (t.length / (z + 1)) := Nat.le_mul_of_pos_right _ q1
          omega
        rw [e3, Nat.add_mul_mod_self_left, Nat.mod_eq_of_lt (by omega)]
      exact (hm p 0 (by omega) e2).2 rfl
    have d := Nat.div_add_mod t.length (z + 1)
    have lt := Nat.mod_lt t.length (show 0 < z + 1 by omega)
    have um := ug_count p t
    refine GG.of (many := (ug z t).length) h1 h2 ?_ fun hz k hk he => (hm hz k hk he).1
    rw [if_pos p]
    have e1 : (ug z t).length - 1 = (t.length % (z + 1) - 1) + z * (t.length / (z + 1)) := by
      rw [Nat.add_mul, Nat.one_mul] at d; omega
    have e2 : ((ug z t).length - 1) / z = t.length / (z + 1) := by
      rw [e1, Nat.add_mul_div_left _ _ p, Nat.div_eq_of_lt (by omega), Nat.zero_add]
    rw [e2]; exact um
theorem GG.first {z m : Nat} {t : List Nat} (h : GG z m t) (hz : 0 < z) : t.length % (z + 1) ≠ 0 := fun e => by
  have um := ug_count hz t
  have gl := h.len
  have h1 := h.1
  rw [if_pos hz] at gl
  have d := Nat.div_add_mod t.length (z + 1)
  rw [e, Nat.add_zero] at d
  have q1 : ((ug z t).length - 1) / z = t.length / (z + 1) := by omega
  have e1 : (ug z t).length = z * (t.length / (z + 1)) := by
    rw [Nat.add_mul, Nat.one_mul] at d; omega
  have q2 : ((ug z t).length - 1) / z < t.length / (z + 1) := by
    rw [Nat.div_lt_iff_lt_mul hz, Nat.mul_comm]; omega
  omega
theorem GG.marks0 {z m : Nat} {t : List Nat} (h : GG z m t) (hz : 0 < z) {k : Nat} (hk : k < t.length) (he : (t.length - 1 - k) % (z + 1) = z) : k ≠ 0 := by
  rintro rfl
  refine h.first hz ?_
  have d := Nat.div_add_mod (t.length - 1 - 0) (z + 1)
  rw [he] at d
  rw [show t.length = (z + 1) * ((t.length - 1 - 0) / (z + 1) + 1) by rw [Nat.mul_add, Nat.mul_one]; omega, Nat.mul_mod_right]
theorem ug_mem {z : Nat} {t : List Nat} {c : Nat} (h : c ∈ ug z t) : c ∈ t := by
  unfold ug at h
  split at h
  · exact h
  · rename_i hz
    have key : ∀ l : List Nat, c ∈ UJ z l → c ∈ l := fun l => by
      refine snoc_ind (P := fun l => c ∈ UJ z l → c ∈ l) (fun h => by rw [UJ_nil] at h; exact h) (fun l x ih h => ?_) l
      rw [UJ_snoc (by omega) l.length l (Nat.le_refl _)] at h
      rcases List.mem_append.mp h with h | h
      · exact List.mem_append_left _ (ih h)
      · split at h
        · cases h
        · exact List.mem_append_right _ h
    have := key _ (List.mem_reverse.mp h)
    exact List.mem_reverse.mp this
theorem wpart_take {p : Nat} {t : List Nat} : t.take (wpart p t).length = wpart p t := by
  unfold wpart
  split
  · exact List.take_length
  · rw [List.length_take, Nat.min_def]
    split
    · rfl
    · rw [List.take_length, List.take_of_length_le (by omega)]
theorem wpart_drop {p pt : Nat} {t : List Nat} (h : WE p pt t) : t.drop ((wpart p t).length + 1) = rpart p t := by
  unfold wpart rpart
  split
  · exact List.drop_of_length_le (by omega)
  · rename_i n
    rcases h with h | h
    · exact absurd h n
    · rw [List.length_take, Nat.min_eq_left (by omega), show t.length - p - 1 + 1 = t.length - p by omega]
theorem wpart_len {p : Nat} {t : List Nat} : (wpart p t).length ≤ t.length := by
  unfold wpart; split
  · exact Nat.le_refl _
  · rw [List.length_take]; omega
theorem part_asc {p z : Nat} {t : List Nat} (h : Asc t) : Asc (ug z (wpart p t) ++ rpart p t) := by
  intro c hc
  rcases List.mem_append.mp hc with hc | hc
  · have := ug_mem hc
    unfold wpart at this
    split at this
    · exact h c this
    · exact h c (List.mem_of_mem_take this)
  · unfold rpart at hc
    split at hc
    · cases hc
    · exact h c (List.mem_of_mem_drop hc)
end L2
set_option Elab.async false
set_option linter.all false
set_option maxRecDepth 100000
set_option maxHeartbeats 4000000
namespace Pw
open PySem L2
seal PySem.Sem.wp
def top (i : Nat) : Stmt := PySem.Challenge.pw_padwright_k24_no_bodies.main.body.getD i (.Pass ⟨0, 0, 0, 0⟩)
abbrev s_figures_of : Stmt := top 9
theorem sc_figures_of : FnScope ["number", "base", "text", "left"] ["number", "base"] (defScope s_figures_of) := ⟨rfl, rfl, rfl, by decide +kernel, rfl, by decide +kernel, by decide +kernel⟩
abbrev s_number_of : Stmt := top 10
theorem sc_number_of : FnScope ["text", "base", "number", "sign", "worth"] ["text", "base"] (defScope s_number_of) := ⟨rfl, rfl, rfl, by decide +kernel, rfl, by decide +kernel, by decide +kernel⟩
abbrev s_grouped : Stmt := top 13
theorem sc_grouped : FnScope ["text", "size", "mark"] ["text", "size", "mark"] (defScope s_grouped) := ⟨rfl, rfl, rfl, by decide +kernel, rfl, by decide +kernel, by decide +kernel⟩
abbrev s_ungrouped : Stmt := top 14
theorem sc_ungrouped : FnScope ["text", "size", "mark", "plain"] ["text", "size", "mark"] (defScope s_ungrouped) := ⟨rfl, rfl, rfl, by decide +kernel, rfl, by decide +kernel, by decide +kernel⟩
abbrev s_parts_of : Stmt := top 15
theorem sc_parts_of : FnScope ["text", "size", "between", "parts", "end"] ["text", "size", "between"] (defScope s_parts_of) := ⟨rfl, rfl, rfl, by decide +kernel, rfl, by decide +kernel, by decide +kernel⟩
abbrev s_body_of : Stmt := top 17
theorem sc_body_of : FnScope ["number", "base", "places", "point", "size", "mark", "text", "cut", "whole"] ["number", "base", "places", "point", "size", "mark"] (defScope s_body_of) := ⟨rfl, rfl, rfl, by decide +kernel, rfl, by decide +kernel, by decide +kernel⟩
abbrev s_number_in : Stmt := top 18
theorem sc_number_in : FnScope ["body", "base", "places", "point", "size", "mark", "cut", "whole", "number"] ["body", "base", "places", "point", "size", "mark"] (defScope s_number_in) := ⟨rfl, rfl, rfl, by decide +kernel, rfl, by decide +kernel, by decide +kernel⟩
abbrev s_whole_end : Stmt := top 19
theorem sc_whole_end : FnScope ["body", "places", "point", "cut"] ["body", "places", "point"] (defScope s_whole_end) := ⟨rfl, rfl, rfl, by decide +kernel, rfl, by decide +kernel, by decide +kernel⟩
abbrev s_law_cell : Stmt := top 21
theorem sc_law_cell : FnScope ["_law_script", "_law_k"] ["_law_script", "_law_k"] (defScope s_law_cell) := ⟨rfl, rfl, rfl, by decide +kernel, rfl, by decide +kernel, by decide +kernel⟩
abbrev s_law_draw : Stmt := top 22
theorem sc_law_draw : FnScope ["_law_cell_here", "_law_salt", "_law_many", "_law_one", "_law_two"] ["_law_cell_here", "_law_salt", "_law_many"] (defScope s_law_draw) := ⟨rfl, rfl, rfl, by decide +kernel, rfl, by decide +kernel, by decide +kernel⟩
abbrev s_law_whole : Stmt := top 23
theorem sc_law_whole : FnScope ["_law_found"] ["_law_found"] (defScope s_law_whole) := ⟨rfl, rfl, rfl, by decide +kernel, rfl, by decide +kernel, by decide +kernel⟩
abbrev s_law_sign : Stmt := top 24
theorem sc_law_sign : FnScope ["_law_cell_here", "_law_salt", "_law_signs", "_law_way"] ["_law_cell_here", "_law_salt"] (defScope s_law_sign) := ⟨rfl, rfl, rfl, by decide +kernel, rfl, by decide +kernel, by decide +kernel⟩
abbrev s_law_figures : Stmt := top 25
theorem sc_law_figures : FnScope ["_law_number", "_law_base", "_law_least", "_law_text"] ["_law_number", "_law_base", "_law_least"] (defScope s_law_figures) := ⟨rfl, rfl, rfl, by decide +kernel, rfl, by decide +kernel, by decide +kernel⟩
abbrev s_law_body : Stmt := top 26
theorem sc_law_body : FnScope ["_law_number", "_law_base", "_law_places", "_law_point", "_law_size", "_law_mark", "_law_text", "_law_whole_here", "_law_found", "_law_k"] ["_law_number", "_law_base", "_law_places", "_law_point", "_law_size", "_law_mark"] (defScope s_law_body) := ⟨rfl, rfl, rfl, by decide +kernel, rfl, by decide +kernel, by decide +kernel⟩
abbrev s_law_spoilt : Stmt := top 27
theorem sc_law_spoilt : FnScope ["_law_text", "_law_cell_here", "_law_point", "_law_mark", "_law_way", "_law_at", "_law_great_here", "_law_sign_here"] ["_law_text", "_law_cell_here", "_law_point", "_law_mark"] (defScope s_law_spoilt) := ⟨rfl, rfl, rfl, by decide +kernel, rfl, by decide +kernel, by decide +kernel⟩
abbrev s_law_worth : Stmt := top 28
theorem sc_law_worth : FnScope ["_law_text", "_law_base", "_law_number", "_law_sign_here", "_law_place"] ["_law_text", "_law_base"] (defScope s_law_worth) := ⟨rfl, rfl, rfl, by decide +kernel, rfl, by decide +kernel, by decide +kernel⟩
abbrev s_law_due : Stmt := top 29
theorem sc_law_due : FnScope ["_law_text", "_law_base", "_law_places", "_law_point", "_law_size", "_law_mark", "_law_whole_here", "_law_told", "_law_k"] ["_law_text", "_law_base", "_law_places", "_law_point", "_law_size", "_law_mark"] (defScope s_law_due) := ⟨rfl, rfl, rfl, by decide +kernel, rfl, by decide +kernel, by decide +kernel⟩
abbrev s_law_refused : Stmt := top 30
theorem sc_law_refused : FnScope ["_law_text", "_law_base", "_law_places", "_law_point", "_law_size", "_law_mark", "e"] ["_law_text", "_law_base", "_law_places", "_law_point", "_law_size", "_law_mark"] (defScope s_law_refused) := ⟨rfl, rfl, rfl, by decide +kernel, rfl, by decide +kernel, by decide +kernel⟩
abbrev s_law_great : Stmt := top 31
theorem sc_law_great : FnScope ["_law_cell_here", "_law_at", "_law_limit", "_law_one"] ["_law_cell_here", "_law_at", "_law_limit"] (defScope s_law_great) := ⟨rfl, rfl, rfl, by decide +kernel, rfl, by decide +kernel, by decide +kernel⟩
abbrev s_law_wide : Stmt := top 32
theorem sc_law_wide : FnScope ["_law_cell_here", "_law_at", "_law_limit"] ["_law_cell_here", "_law_at", "_law_limit"] (defScope s_law_wide) := ⟨rfl, rfl, rfl, by decide +kernel, rfl, by decide +kernel, by decide +kernel⟩
abbrev s_law_power : Stmt := top 33
theorem sc_law_power : FnScope ["_law_base", "_law_times", "_law_found", "_law_k"] ["_law_base", "_law_times"] (defScope s_law_power) := ⟨rfl, rfl, rfl, by decide +kernel, rfl, by decide +kernel, by decide +kernel⟩
abbrev s_law_right : Stmt := top 34
theorem sc_law_right : FnScope ["_law_cell_here", "_law_base", "_law_places", "_law_size", "_law_point", "_law_mark", "_law_many", "_law_number", "_law_text", "_law_due_here", "_law_found"] ["_law_cell_here"] (defScope s_law_right) := ⟨rfl, rfl, rfl, by decide +kernel, rfl, by decide +kernel, by decide +kernel⟩
abbrev s_law : Stmt := top 35
theorem sc_law : FnScope ["_law_script", "_law_cell_here"] ["_law_script"] (defScope s_law) := ⟨rfl, rfl, rfl, by decide +kernel, rfl, by decide +kernel, by decide +kernel⟩
structure Blt (mg : Str → Option Value) : Prop where
  z_len : mg "len" = none
  z_max : mg "max" = none
  z_isinstance : mg "isinstance" = none
  z_str : mg "str" = none
  z_bool : mg "bool" = none
  z_int : mg "int" = none
  z_range : mg "range" = none
  z_ValueError : mg "ValueError" = none
section
variable {P : Program} {w : World} {K : PySem.W.Frag} {mg : Str → Option Value} {base : Heap}
local macro_rules | `(tactic| walk_at "sd") => `(tactic| first | omega | (unfold CPos; omega) | (unfold CNn; omega) | (unfold CNz; omega) | (unfold CDivB GL; omega) | (unfold CDivS GL; omega) | (unfold CMulA CMul CMulB GL; omega))
local macro_rules | `(tactic| walk_at "hp") => `(tactic| first | assumption | (refine Same.at (by assumption) ?_; walk_at "hp") | exact upd_same)
local macro_rules | `(tactic| walk_at "sq") => `(tactic| first | assumption | (refine Same.seq (by assumption) ?_; walk_at "sq") | exact SqL.of (by walk_at "hp"))
local macro_rules | `(tactic| walk_at "sm") => `(tactic| first | assumption | exact Same.refl _ | (refine Same.trans ?_ (by assumption); walk_at "sm"))
local macro_rules | `(tactic| walk_at "rdc") => `(tactic| fail "no callee")
local macro_rules | `(tactic| walk_at "rd1") => `(tactic| first
  | (with_reducible refine r_seq ?_)
  | (with_reducible refine r_asg ?_)
  | (with_reducible refine r_ifS ?_)
  | (with_reducible refine r_ret ?_)
  | (with_reducible refine r_next ?_)
  | (with_reducible refine r_name ?_)
  | ((with_reducible refine' r_var ?e ?_); (case e => rfl))
  | (with_reducible refine r_c ?_)
  | (with_reducible refine r_op ?_)
  | (with_reducible refine r_I0 ?_)
  | ((with_reducible refine' r_I ?hc ?_); (case hc => walk_at "sd"))
  | (with_reducible refine r_test ?_)
  | (with_reducible refine r_tB ?_)
  | (with_reducible refine r_exbl ?_)
  | (with_reducible refine r_eqI ?_)
  | (with_reducible refine r_neI ?_)
  | (with_reducible refine iteT ?_)
  | (with_reducible refine iteF ?_)
  | (with_reducible refine i_nT ?_)
  | (with_reducible refine i_nF ?_)
  | ((with_reducible refine' i_dP ?hc ?_); (case hc => omega))
  | ((with_reducible refine' i_dN ?hc ?_); (case hc => omega))
  | ((with_reducible refine' i_ndP ?hc ?_); (case hc => omega))
  | ((with_reducible refine' i_ndN ?hc ?_); (case hc => omega))
  | (with_reducible refine i_d (fun hc => ?_) (fun hc => ?_))
  | (with_reducible refine i_nd (fun hc => ?_) (fun hc => ?_))
  | (with_reducible refine i_b (fun hc => ?_) (fun hc => ?_))
  | (with_reducible refine r_cons ?_)
  | (with_reducible refine r_nil ?_)
  | (with_reducible refine r_call ?_)
  | (with_reducible refine r_cb ?_)
  | (with_reducible refine r_un ?_)
  | (with_reducible refine r_U ?_)
  | (with_reducible refine r_and ?_)
  | (with_reducible refine r_or ?_)
  | (with_reducible refine r_not ?_)
  | (with_reducible refine r_andV ?_)
  | (with_reducible refine r_orV ?_)
  | (with_reducible refine r_notV ?_)
  | (with_reducible refine r_chain ?_)
  | (with_reducible refine r_tup ?_)
  | (with_reducible refine r_lst ?_)
  | ((with_reducible refine' r_kTup ?hz ?_); (case hz => exact small (by simp only [List.length_cons, List.length_nil]; decide)); intro p' H' g' e')
  | ((with_reducible refine' r_kLst ?hz ?_); (case hz => exact small (by simp only [List.length_cons, List.length_nil]; decide)); intro p' H' g' e')
  | (with_reducible refine r_isi_ii ?_)
  | (with_reducible refine r_isi_ib ?_)
  | (with_reducible refine r_isi_bb ?_)
  | (with_reducible refine r_isi_bi ?_)
  | ((with_reducible refine' r_isi_tt ?h ?_); (case h => walk_at "hp"))
  | ((with_reducible refine' r_ixT ?h ?e ?_); (case h => walk_at "hp"); (case e => rfl))
  | ((with_reducible refine' r_ix2 ?h ?hi (fun hi' => ?_) (fun hi' => ?_)); (case h => walk_at "hp"); (case hi => omega))
  | (with_reducible refine r_absA (fun k' hk' => ?_))
  | (with_reducible refine r_max2A (fun k' hk' => ?_))
  | (with_reducible refine r_min2A (fun k' hk' => ?_))
  | (with_reducible refine r_int1i ?_)
  | (with_reducible refine r_int1d (fun hc => ?_) (fun hc => ?_))
  | (with_reducible refine r_int1b ?_)
  | ((with_reducible refine' r_lenT2 ?h ?_); (case h => walk_at "hp"))
  | ((with_reducible refine' r_lenT ?h ?_); (case h => walk_at "hp"))
  | ((with_reducible refine' r_lenL ?h ?_); (case h => walk_at "sq"))
  | (with_reducible refine r_par ?_)
  | (with_reducible refine r_two ?_)
  | (with_reducible refine r_exN ?_)
  | (with_reducible refine r_forL ?_)
  | (with_reducible refine r_forR ?_)
  | ((with_reducible refine' r_gTup ?h ?n ?_); (case h => walk_at "hp"); (case n => rfl))
  | (with_reducible refine r_gCons ?_)
  | (with_reducible refine r_gNil ?_)
  | (with_reducible refine r_drop ?_)
  | (with_reducible refine r_retN ?_)
  | (with_reducible refine r_eqB ?_)
  | walk_at "rdc"
  | fail "rd stops")
local macro_rules | `(tactic| walk_at "rd") => `(tactic| repeat' walk_at "rd1")
local macro_rules | `(tactic| walk_at "st") => `(tactic| dsimp only [L2.start, List.map, List.length, List.replicate, List.append, HAppend.hAppend, Append.append, Nat.reduceAdd, Nat.reduceSub])
local macro_rules | `(tactic| walk_at "rdc") => `(tactic| first
  | (with_reducible refine r_slice ?_)
  | (with_reducible refine r_noPart ?_)
  | (with_reducible refine r_part ?_)
  | (with_reducible refine r_exint ?_)
  | (with_reducible refine r_compL ?_)
  | (with_reducible refine r_compR ?_)
  | (with_reducible refine r_noIf ?_)
  | (with_reducible refine r_ifE ?_)
  | ((with_reducible refine' r_slL ?h ?_); (case h => walk_at "sq"); intro p' H' g' e')
  | ((with_reducible refine' r_eqS (b := true) ?e ?_); (case e => exact decide_eq_true rfl))
  | ((with_reducible refine' r_eqS (b := false) ?e ?_); (case e => exact (by decide +kernel)))
  | fail "rd2 stops")
local macro_rules | `(tactic| walk_at "odd") => `(tactic| first | assumption | exact .non | exact .bl _ | exact .str _ | exact .lst (by walk_at "hp") | exact .tup (by walk_at "hp") | exact .dct (by walk_at "hp") | (refine Odd.same ?_ (by assumption); walk_at "odd"))
local macro_rules | `(tactic| walk_at "rdc") => `(tactic| first
  | (with_reducible refine r_isiO_int (kit_int_int _) ?_)
  | (with_reducible refine r_isiO_int (kit_int_bool _) ?_)
  | (with_reducible refine r_isiO_int (kit_int_tuple _) ?_)
  | (with_reducible refine r_isiO_bl (kit_bool_int _) ?_)
  | (with_reducible refine r_isiO_bl (kit_bool_bool _) ?_)
  | (with_reducible refine r_isiO_bl (kit_bool_tuple _) ?_)
  | (with_reducible refine r_isiO_str (kit_str_int _) ?_)
  | (with_reducible refine r_isiO_str (kit_str_tuple _) ?_)
  | (with_reducible refine r_isiO_non (kit_NoneType_int _) ?_)
  | (with_reducible refine r_isiO_non (kit_NoneType_tuple _) ?_)
  | ((with_reducible refine' r_isiO_lst ?h (kit_list_int _) ?_); (case h => walk_at "hp"))
  | ((with_reducible refine' r_isiO_lst ?h (kit_list_tuple _) ?_); (case h => walk_at "hp"))
  | ((with_reducible refine' r_isiO_tup ?h (kit_tuple_int _) ?_); (case h => walk_at "hp"))
  | ((with_reducible refine' r_isiO_tup ?h (kit_tuple_tuple _) ?_); (case h => walk_at "hp"))
  | ((with_reducible refine' r_isiO_dct ?h (kit_dict_int _) ?_); (case h => walk_at "hp"))
  | ((with_reducible refine' r_isiO_dct ?h (kit_dict_tuple _) ?_); (case h => walk_at "hp"))
  | ((with_reducible refine' r_strI ?h0 ?h1 ?_); (case h0 => omega); (case h1 => omega); intro x')
  | (with_reducible refine r_raise ?_)
  | (with_reducible refine r_tryX ?_)
  | ((with_reducible refine r_dct ?_); intro p' H' g' e')
  | (with_reducible refine r_bmL ?_)
  | ((with_reducible refine' r_tyLL ?h ?_); (case h => walk_at "sq"))
  | fail "rd3 stops")
local macro_rules | `(tactic| walk_at "tl") => `(tactic| first | omega | (simp only [Lt_T, List.length_append, List.length_replicate, List.length_cons, List.length_nil, List.length_take, List.length_drop]; omega) | (with_unfolding_all decide))
local macro_rules | `(tactic| walk_at "rdc") => `(tactic| first
  | ((with_reducible refine' rTT_add ?hz ?_); (case hz => walk_at "tl"))
  | ((with_reducible refine' rTS_add ?hz ?_); (case hz => walk_at "tl"))
  | ((with_reducible refine' rST_add ?hz ?_); (case hz => walk_at "tl"))
  | ((with_reducible refine' rT_add ?hz ?_); (case hz => walk_at "tl"))
  | ((with_reducible refine' rTT_len ?hz ?_); (case hz => walk_at "tl"))
  | ((with_reducible refine' rT_len ?hz ?_); (case hz => walk_at "tl"))
  | ((with_reducible refine' rT_ixK (z := Str.ofString _) 94 ?hn ?hz ?h0 ?h1 ?_); (case hn => decide +kernel); (case hz => decide); (case h0 => omega); (case h1 => omega); intro c' hc')
  | ((with_reducible refine' rT_ixK (z := Str.ofString _) 16 ?hn ?hz ?h0 ?h1 ?_); (case hn => decide +kernel); (case hz => decide); (case h0 => omega); (case h1 => omega); intro c' hc')
  | ((with_reducible refine' rT_ixK (z := Str.ofString _) 8 ?hn ?hz ?h0 ?h1 ?_); (case hn => decide +kernel); (case hz => decide); (case h0 => omega); (case h1 => omega); intro c' hc')
  | ((with_reducible refine' rT_ixK (z := Str.ofString _) 32 ?hn ?hz ?h0 ?h1 ?_); (case hn => decide +kernel); (case hz => decide); (case h0 => omega); (case h1 => omega); intro c' hc')
  | ((with_reducible refine' rT_ixK (z := Str.ofString _) 13 ?hn ?hz ?h0 ?h1 ?_); (case hn => decide +kernel); (case hz => decide); (case h0 => omega); (case h1 => omega); intro c' hc')
  | ((with_reducible refine' rT_ixK (z := Str.ofString _) 17 ?hn ?hz ?h0 ?h1 ?_); (case hn => decide +kernel); (case hz => decide); (case h0 => omega); (case h1 => omega); intro c' hc')
  | ((with_reducible refine' rT_ixK (z := Str.ofString _) 5 ?hn ?hz ?h0 ?h1 ?_); (case hn => decide +kernel); (case hz => decide); (case h0 => omega); (case h1 => omega); intro c' hc')
  | ((with_reducible refine' rTT_ix ?hz ?h0 ?h1 ?_); (case hz => walk_at "tl"); (case h0 => omega); (case h1 => walk_at "tl"))
  | ((with_reducible refine' rT_ix ?hz ?h0 ?h1 ?_); (case hz => walk_at "tl"); (case h0 => omega); (case h1 => walk_at "tl"))
  | ((with_reducible refine' rTT_ixL ?hz ?h1 ?_); (case hz => walk_at "tl"); (case h1 => walk_at "tl"))
  | ((with_reducible refine' rTT_sl0 ?hz ?h0 ?_); (case hz => walk_at "tl"); (case h0 => omega))
  | ((with_reducible refine' rTT_sli ?hz ?h0 ?_); (case hz => walk_at "tl"); (case h0 => omega))
  | ((with_reducible refine' rTT_slij ?hz ?h0 ?h1 ?_); (case hz => walk_at "tl"); (case h0 => omega); (case h1 => omega))
  | ((with_reducible refine' rT_mul1 ?h0 ?h1 ?_); (case h0 => omega); (case h1 => omega))
  | (with_reducible refine r_isi_ss ?_)
  | ((with_reducible refine' r_eqS (b := true) ?e ?_); (case e => exact decide_eq_true rfl))
  | ((with_reducible refine' r_eqS (b := false) ?e ?_); (case e => exact (by decide +kernel)))
  | ((with_reducible refine' r_neS (b := true) ?e ?_); (case e => exact decide_eq_true rfl))
  | ((with_reducible refine' r_neS (b := false) ?e ?_); (case e => exact (by decide +kernel)))
  | (with_reducible refine rTT_eq ?_)
  | (with_reducible refine rTT_ne ?_)
  | (with_reducible refine r_eqT2 ?_)
  | (with_reducible refine r_neT2 ?_)
  | (with_reducible refine r_bmL ?_)
  | (with_reducible refine r_tyS ?_)
  | (with_reducible refine r_findT ?_)
  | fail "rd4 stops")
local macro_rules | `(tactic| walk_at "rdc") => `(tactic| first
  | (with_reducible refine r_forS ?_)
  | ((with_reducible refine' r_eqS (x := T _) (b := true) ?e ?_); (case e => exact decide_eq_true rfl))
  | (with_reducible refine rTT_eq ?_)
  | (with_reducible refine rTS_eq ?_)
  | ((with_reducible refine' r_neS (x := T _) (b := true) ?e ?_); (case e => exact decide_eq_true rfl))
  | (with_reducible refine rTT_ne ?_)
  | (with_reducible refine rTS_ne ?_)
  | fail "rd5 stops")
local macro_rules | `(tactic| walk_at "rdc") => `(tactic| first
  | (with_reducible refine r_bm0 ?_)
  | ((with_reducible refine' r_ixTs ?h ?h0 ?h1 ?_); (case h => walk_at "sq"); (case h0 => omega); (case h1 => omega))
  | fail "rd6 stops")
local macro_rules | `(tactic| walk_at "asc") => `(tactic| first | assumption | exact Asc.nil | exact Asc.one (by omega) | exact Asc.app (by walk_at "asc") (by walk_at "asc") | exact Asc.take (by walk_at "asc") _ | exact Asc.drop (by walk_at "asc") _ | exact Asc.rep (by walk_at "asc") _)
local macro_rules | `(tactic| walk_at "rdc") => `(tactic| first
  | (with_reducible refine r_isNN ?_)
  | (with_reducible refine r_isNI ?_)
  | (with_reducible refine r_isNS ?_)
  | (with_reducible refine r_isiO_str (kit_str_str _) ?_)
  | ((with_reducible refine' r_isi_nt ?h ?_); (case h => assumption))
  | ((with_reducible refine' rTT_mul ?h1 ?h2 ?h3 ?_); (case h1 => omega); (case h2 => omega); (case h3 => (simp only [Int.reduceToNat]; omega)))
  | fail "rd7 stops")
local macro_rules | `(tactic| walk_at "rdc") => `(tactic| first
  | (with_reducible refine r_forR2 ?_)
  | fail "rd8 stops")
local macro_rules | `(tactic| walk_at "rdc") => `(tactic| first
  | ((with_reducible refine' r_rjT ?h0 ?h1 ?_); (case h0 => omega); (case h1 => omega))
  | fail "rd11 stops")
local macro_rules | `(tactic| walk_at "rdc") => `(tactic| first
  | (with_reducible refine r_callT ?_)
  | ((with_reducible refine' r_wk ?h ?_); (case h => walk_at "wk"))
  | fail "rdT stops")
local macro_rules | `(tactic| walk_at "wk") => `(tactic| repeat (first | exact Wk.nil | refine Wk.one ?_ | refine Wk.any ?_))
def sp_law_cell (K : PySem.W.Frag) : Sp := fun vs H Q _ => ∃ (a : Addr) (ns : List Int) (k : Int), vs = [.ref a, .int k] ∧ SqL K H a (ns.map V.int) ∧ 0 ≤ k ∧ ∀ v : Int, Q (.int v) H
theorem c_cell {K : PySem.W.Frag} {a : Addr} {ns : List Int} {k : Int} {H : Hp} {Q : VK} {E : XK} (h1 : SqL K H a (ns.map V.int)) (h2 : 0 ≤ k) (q : ∀ v : Int, Q (.int v) H) : sp_law_cell K ([.ref a, .int k] ++ []) H Q E := ⟨a, ns, k, rfl, h1, h2, q⟩
def sp_law_draw (K : PySem.W.Frag) : Sp := fun vs H Q _ => ∃ c t m : Int, vs = [.int c, .int t, .int m] ∧ 0 ≤ t ∧ 0 < m ∧ ∀ v : Int, 0 ≤ v → v < m → Q (.int v) H
theorem c_draw {K : PySem.W.Frag} {c t m : Int} {H : Hp} {Q : VK} {E : XK} (h1 : 0 ≤ t) (h2 : 0 < m) (q : ∀ v : Int, 0 ≤ v → v < m → Q (.int v) H) : sp_law_draw K ([.int c, .int t, .int m] ++ []) H Q E := ⟨c, t, m, rfl, h1, h2, q⟩
def sp_law_whole (K : PySem.W.Frag) : Sp := fun vs H Q _ => ∃ i : Int, vs = [.int i] ∧ Q (.bl true) H
theorem c_whole {K : PySem.W.Frag} {i : Int} {H : Hp} {Q : VK} {E : XK} (q : Q (.bl true) H) : sp_law_whole K ([.int i] ++ []) H Q E := ⟨i, rfl, q⟩
local macro_rules | `(tactic| walk_at "rdc") => `(tactic| ((with_reducible refine' c_draw ?h1 ?h2 ?_); (case h1 => omega); (case h2 => omega); intro v' h0' h1'))
local macro_rules | `(tactic| walk_at "rdc") => `(tactic| ((with_reducible refine' c_cell ?h1 ?h2 ?_); (case h1 => walk_at "sq"); (case h2 => omega); intro v'))
local macro_rules | `(tactic| walk_at "rdc") => `(tactic| (with_reducible refine c_whole ?_))
def sp_law_sign (K : PySem.W.Frag) : Sp := fun vs H Q _ => ∃ n t : Int, vs = [.int n, .int t] ∧ 0 ≤ t ∧ ∀ c : Nat, c < 127 → Q (.str (T [c])) H
theorem c_sign {K : PySem.W.Frag} {n t : Int} {H : Hp} {Q : VK} {E : XK} (h1 : 0 ≤ t) (q : ∀ c : Nat, c < 127 → Q (.str (T [c])) H) : sp_law_sign K ([.int n, .int t] ++ []) H Q E := ⟨n, t, rfl, h1, q⟩
local macro_rules | `(tactic| walk_at "rdc") => `(tactic| ((with_reducible refine' c_sign ?h1 ?_); (case h1 => omega); intro c' hc'))
theorem r_findF {c : Nat} {H : Hp} {Q : VK} (h : c < 127) (q : Q (.int (fv c)) H) : rFindT (.str "0123456789abcdef") [.str (T [c])] H Q := r_findT (by rw [find_fv h]; exact q)
theorem r_ixF {i : Int} {H : Hp} {Q : VK} (h0 : 0 ≤ i) (h1 : i < 16) (q : Q (.str (T [fc i.toNat])) H) : rIxS (.str "0123456789abcdef") (.int i) H Q := by
  have e : (Lt "0123456789abcdef").length = 16 := by decide +kernel
  exact rT_ix (by omega) h0 (by omega) q
theorem rT_mulZ {n : Int} {H : Hp} {Q : VK} (h1 : n < 16777216) (h2 : -16777216 < n) (q : Q (.str (T (List.replicate n.toNat 48))) H) : rMulT (.str "0") (.int n) H Q := by
  have e : ("0" : Str) = T [48] := by decide +kernel
  rw [e]; exact rT_mul1 h1 h2 q
local macro_rules | `(tactic| walk_at "rdc") => `(tactic| ((with_reducible refine' rT_mulZ ?h1 ?h2 ?_); (case h1 => omega); (case h2 => omega)))
local macro_rules | `(tactic| walk_at "rdc") => `(tactic| ((with_reducible refine' r_findF ?h1 ?_); (case h1 => first | omega | assumption)))
local macro_rules | `(tactic| walk_at "rdc") => `(tactic| ((with_reducible refine' r_ixF ?h1 ?h2 ?_); (case h1 => omega); (case h2 => omega)))
def sp_figures_of (K : PySem.W.Frag) : Sp := fun vs H Q _ => ∃ n b : Int, vs = [.int n, .int b] ∧ 0 ≤ n ∧ 2 ≤ b ∧ b ≤ 16 ∧ n < 1766847064778384329583297500742918515827483896875618958121606201292619776 ∧ (∀ l, l = figs b.toNat n.toNat → FigB b l → val b l = n → 0 < l.length → l.length ≤ 240 → (l.getD 0 0 = 48 → l = [48]) → Q (.str (T l)) H)
theorem c_figures_of {K : PySem.W.Frag} {n b : Int} {H : Hp} {Q : VK} {E : XK} (h1 : 0 ≤ n) (h2 : 2 ≤ b) (h3 : b ≤ 16) (h4 : n < 1766847064778384329583297500742918515827483896875618958121606201292619776) (q : (∀ l, l = figs b.toNat n.toNat → FigB b l → val b l = n → 0 < l.length → l.length ≤ 240 → (l.getD 0 0 = 48 → l = [48]) → Q (.str (T l)) H)) : sp_figures_of K ([.int n, .int b] ++ []) H Q E := ⟨n, b, rfl, h1, h2, h3, h4, q⟩
local macro_rules | `(tactic| walk_at "rdc") => `(tactic| ((with_reducible refine' c_figures_of ?h1 ?h2 ?h3 ?h4 ?_); (case h1 => omega); (case h2 => omega); (case h3 => omega); (case h4 => omega); intro l' el' f1' f2' f3' f4' f5'))
def sp_parts_of (K : PySem.W.Frag) : Sp := fun vs H Q _ => ∃ (a : List Nat) (z g : Int), vs = [.str (T a), .int z, .int g] ∧ 0 < z ∧ z ≤ 9 ∧ 0 ≤ g ∧ g ≤ 1 ∧ a.length ≤ 400 ∧ ∀ p H', Same H H' → H' p = some (.lst ((pcs a z.toNat g.toNat a.length).map fun l => V.str (T l))) → Q (.ref p) H'
theorem c_parts_of {K : PySem.W.Frag} {a : List Nat} {z g : Int} {H : Hp} {Q : VK} {E : XK} (h1 : 0 < z) (h2 : z ≤ 9) (h3 : 0 ≤ g) (h4 : g ≤ 1) (h5 : a.length ≤ 400) (q : ∀ p H', Same H H' → H' p = some (.lst ((pcs a z.toNat g.toNat a.length).map fun l => V.str (T l))) → Q (.ref p) H') : sp_parts_of K ([.str (T a), .int z, .int g] ++ []) H Q E := ⟨a, z, g, rfl, h1, h2, h3, h4, h5, q⟩
local macro_rules | `(tactic| walk_at "rdc") => `(tactic| ((with_reducible refine' c_parts_of ?h1 ?h2 ?h3 ?h4 ?h5 ?_); (case h1 => omega); (case h2 => omega); (case h3 => omega); (case h4 => omega); (case h5 => omega); intro p' H' g' e'))
def sp_grouped (K : PySem.W.Frag) : Sp := fun vs H Q _ => ∃ (a : List Nat) (z : Int) (m : Nat), vs = [.str (T a), .int z, .str (T [m])] ∧ 0 ≤ z ∧ z ≤ 9 ∧ a.length ≤ 400 ∧ ∀ H', Same H H' → Q (.str (T (gr z.toNat m a))) H'
theorem c_grouped {K : PySem.W.Frag} {a : List Nat} {z : Int} {m : Nat} {H : Hp} {Q : VK} {E : XK} (h1 : 0 ≤ z) (h2 : z ≤ 9) (h5 : a.length ≤ 400) (q : ∀ H', Same H H' → Q (.str (T (gr z.toNat m a))) H') : sp_grouped K ([.str (T a), .int z, .str (T [m])] ++ []) H Q E := ⟨a, z, m, rfl, h1, h2, h5, q⟩
local macro_rules | `(tactic| walk_at "rdc") => `(tactic| ((with_reducible refine' c_grouped ?h1 ?h2 ?h5 ?_); (case h1 => omega); (case h2 => omega); (case h5 => omega); intro H' g'))
def NumB (n b p : Int) : Prop := 0 ≤ n ∧ 2 ≤ b ∧ b ≤ 16 ∧ 0 ≤ p ∧ p ≤ 6 ∧ n.toNat < b.toNat ^ (40 + p.toNat)
def bdI (n b p : Int) (pt : Nat) (z : Int) (m : Nat) : List Nat := bdy b.toNat p.toNat pt z.toNat m n.toNat
theorem NumB.big {n b p : Int} (h : NumB n b p) : n < 1766847064778384329583297500742918515827483896875618958121606201292619776 := by
  obtain ⟨h1, h2, h3, h4, h5, h6⟩ := h
  have e1 : b.toNat ^ (40 + p.toNat) ≤ 16 ^ (40 + p.toNat) := Nat.pow_le_pow_left (by omega) _
  have e2 : (16 : Nat) ^ (40 + p.toNat) ≤ 16 ^ 46 := Nat.pow_le_pow_right (by decide) (by omega)
  have e3 : (16 : Nat) ^ 46 < 1766847064778384329583297500742918515827483896875618958121606201292619776 := by decide +kernel
  omega
def sp_body_of (K : PySem.W.Frag) : Sp := fun vs H Q _ => ∃ (n b p z : Int) (pt m : Nat), vs = [.int n, .int b, .int p, .str (T [pt]), .int z, .str (T [m])] ∧ NumB n b p ∧ 0 ≤ z ∧ z ≤ 9 ∧ ∀ H', Same H H' → Q (.str (T (bdI n b p pt z m))) H'
theorem c_body_of {K : PySem.W.Frag} {n b p z : Int} {pt m : Nat} {H : Hp} {Q : VK} {E : XK} (h1 : NumB n b p) (h2 : 0 ≤ z) (h3 : z ≤ 9) (q : ∀ H', Same H H' → Q (.str (T (bdI n b p pt z m))) H') : sp_body_of K ([.int n, .int b, .int p, .str (T [pt]), .int z, .str (T [m])] ++ []) H Q E := ⟨n, b, p, z, pt, m, rfl, h1, h2, h3, q⟩
local macro_rules | `(tactic| walk_at "rdc") => `(tactic| ((with_reducible refine' c_body_of ?h1 ?h2 ?h3 ?_); (case h1 => assumption); (case h2 => omega); (case h3 => omega); intro H' g'))
def sp_ungrouped (K : PySem.W.Frag) : Sp := fun vs H Q E => ∃ (t : List Nat) (z : Int) (m : Nat), vs = [.str (T t), .int z, .str (T [m])] ∧ 0 ≤ z ∧ z ≤ 9 ∧ t.length ≤ 400 ∧ (GG z.toNat m t → ∀ H', Same H H' → Q (.str (T (ug z.toNat t))) H') ∧ (¬ GG z.toNat m t → ∀ C H', Nm K "NoGroups" C → Same H H' → E (.ref C) none H')
def sp_number_of (K : PySem.W.Frag) : Sp := fun vs H Q E => ∃ (l : List Nat) (b : Int), vs = [.str (T l), .int b] ∧ Asc l ∧ 1 ≤ l.length ∧ l.length ≤ 240 ∧ 2 ≤ b ∧ b ≤ 16 ∧ (FigB b l → Q (.int (val b l)) H) ∧ (¬ FigB b l → ∀ C, Nm K "NoFigures" C → E (.ref C) none H)
def sp_whole_end (K : PySem.W.Frag) : Sp := fun vs H Q E => ∃ (t : List Nat) (p : Int) (pt : Nat), vs = [.str (T t), .int p, .str (T [pt])] ∧ 0 ≤ p ∧ p ≤ 6 ∧ t.length ≤ 400 ∧ (WE p.toNat pt t → Q (.int (wpart p.toNat t).length) H) ∧ (¬ WE p.toNat pt t → ∀ C, Nm K "NoBody" C → E (.ref C) none H)
def sp_number_in (K : PySem.W.Frag) : Sp := fun vs H Q E => ∃ (t : List Nat) (b p z : Int) (pt m : Nat), vs = [.str (T t), .int b, .int p, .str (T [pt]), .int z, .str (T [m])] ∧ 2 ≤ b ∧ b ≤ 16 ∧ 0 ≤ p ∧ p ≤ 6 ∧ 0 ≤ z ∧ z ≤ 9 ∧ t.length ≤ 400 ∧ Asc t ∧ (IsB b p.toNat pt z.toNat m t → ∀ H', Same H H' → Q (.int (bval b p.toNat z.toNat t)) H') ∧ (¬ IsB b p.toNat pt z.toNat m t → ∀ C H', Nm K "NoBody" C → Same H H' → E (.ref C) none H')
theorem c_number_in {K : PySem.W.Frag} {t : List Nat} {b p z : Int} {pt m : Nat} {H : Hp} {Q : VK} {E : XK} (h1 : 2 ≤ b) (h2 : b ≤ 16) (h3 : 0 ≤ p) (h4 : p ≤ 6) (h5 : 0 ≤ z) (h6 : z ≤ 9) (h7 : t.length ≤ 400) (h8 : Asc t) (g : IsB b p.toNat pt z.toNat m t) (q : ∀ H', Same H H' → Q (.int (bval b p.toNat z.toNat t)) H') : spc (sp_number_in K) ([.str (T t), .int b, .int p, .str (T [pt]), .int z, .str (T [m])] ++ []) H Q E := ⟨t, b, p, z, pt, m, rfl, h1, h2, h3, h4, h5, h6, h7, h8, fun _ => q, fun n => absurd g n⟩
theorem c_refuses {K : PySem.W.Frag} {t : List Nat} {b p z : Int} {pt m : Nat} {H : Hp} {Q : VK} {E : XK} (h1 : 2 ≤ b) (h2 : b ≤ 16) (h3 : 0 ≤ p) (h4 : p ≤ 6) (h5 : 0 ≤ z) (h6 : z ≤ 9) (h7 : t.length ≤ 400) (h8 : Asc t) (g : ¬ IsB b p.toNat pt z.toNat m t) (q : ∀ C H', Nm K "NoBody" C → Same H H' → E (.ref C) none H') : sp_number_in K ([.str (T t), .int b, .int p, .str (T [pt]), .int z, .str (T [m])] ++ []) H Q E := ⟨t, b, p, z, pt, m, rfl, h1, h2, h3, h4, h5, h6, h7, h8, fun n => absurd n g, fun _ => q⟩
theorem ok_figures_of {f : Addr} {fd : FuncData} (F : Fun K "figures_of" "figures_of" s_figures_of f fd) (B : Blt mg) {t_FIGURES : Tok} (g_FIGURES : mg "FIGURES" = some (.str "0123456789abcdef" t_FIGURES)) : FnOk P w K mg base CX0 1 f fd ["number", "base"] (sp_figures_of K) := by
  refine F.ok sc_figures_of (fun vs H Q E h => ?_) (fun cdv A outer s H vs Q E hr h => ?_)
  · obtain ⟨n, b, rfl, h1, h2, h3, h4, q⟩ := h
    rfl
  obtain ⟨n, b, rfl, h1, h2, h3, h4, q⟩ := h
  refine ⟨_, pss_cons (ps_set (i := 2) sc_figures_of.nd rfl (Or.inl rfl) (pe_ix ix_str (pe_glob rfl g_FIGURES (v := .str "0123456789abcdef") ⟨_, rfl⟩) (pe_op op_modP (pv 0) (pv 1)) (fun _ _ => rfl)))
    (pss_cons (ps_set (i := 3) sc_figures_of.nd rfl (Or.inl rfl) (pe_op op_fdivB (pv 0) (pv 1)))
    (pss_cons (ps_while PassesOwn.never (pt_cmpR op_gt (pv 3) (pe_int) (nomark _)) (pss_cons (ps_set (i := 2) sc_figures_of.nd rfl (Or.inl rfl) (pe_op op_addS (pe_ix ix_str (pe_glob rfl g_FIGURES (v := .str "0123456789abcdef") ⟨_, rfl⟩) (pe_op op_modP (pv 3) (pv 1)) (fun _ _ => rfl)) (pv 2)))
    (pss_one (ps_set (i := 3) sc_figures_of.nd rfl (Or.inl rfl) (pe_op op_fdivB (pv 3) (pv 1))))))
    (pss_one (ps_ret (pv 2))))), ?_⟩
  walk_at "st"
  obtain ⟨N, rfl⟩ := Int.eq_ofNat_of_zero_le h1
  obtain ⟨m, rfl⟩ := Int.eq_ofNat_of_zero_le (show 0 ≤ b by omega)
  have hz := figs_240 (b := m) (n := N) (by omega) (by omega)
  have em : ∀ k : Nat, (k : Int) % (m : Int) = ((k % m : Nat) : Int) := fun k => (Int.natCast_emod k m).symm
  have ed : ∀ k : Nat, (k : Int) / (m : Int) = ((k / m : Nat) : Int) := fun k => (Int.natCast_ediv k m).symm
  have lm : ∀ k : Nat, k % m < m := fun k => Nat.mod_lt k (by omega)
  have sp := figs_spec (b := m) (by omega) (by omega) N N (Nat.le_refl _)
  replace q := q _ rfl (by simp only [Int.toNat_natCast]; exact sp.1) (by simp only [Int.toNat_natCast]; exact sp.2.1) (by simp only [Int.toNat_natCast]; exact List.length_pos_iff.mpr sp.2.2.1) (by simp only [Int.toNat_natCast]; exact hz) (by
    simp only [Int.toNat_natCast]; intro z; rw [sp.2.2.2 z, figs_lt (by omega)]; decide +kernel)
  simp only [Int.toNat_natCast] at q
  have l0 := lm N
  have e0 := em N
  walk_at "rd"
  rw [ed N, em N, Int.toNat_natCast]
  refine r_while (fun k σ H' => H' = H ∧ ∃ l : List Nat, σ = [some (.int N), some (.int m), some (.str (T l)), some (.int k)] ∧ figs m N = if k = 0 then l else figs m k ++ l) ⟨N / m, rfl, [fc (N % m)], rfl, ?_⟩ ?_
  · have t := figs_turn (b := m) (m := N) (by omega) []
    rw [List.append_nil] at t; exact t
  · rintro k σ H' ⟨rfl, l, rfl, e⟩
    have lk := lm k
    have ek := em k
    have ll : l.length ≤ 240 := by
      have z := congrArg List.length e
      split at z
      · omega
      · rw [List.length_append] at z; omega
    walk_at "rd"
    · rename_i hc
      refine ⟨k / m, Nat.div_lt_self (by omega) (by omega), rfl, fc (k % m) :: l, ?_, ?_⟩
      · rw [em k, ed k, Int.toNat_natCast]; rfl
      · rw [← figs_turn (by omega) l, e, if_neg (by omega)]
    · rename_i hc
      rw [if_pos (by omega)] at e
      rw [← e]; exact q
theorem ok_parts_of {f : Addr} {fd : FuncData} (F : Fun K "parts_of" "parts_of" s_parts_of f fd) (B : Blt mg) : FnOk P w K mg base CX0 1 f fd ["text", "size", "between"] (sp_parts_of K) := by
  refine F.ok sc_parts_of (fun vs H Q E h => ?_) (fun cdv A outer s H vs Q E hr h => ?_)
  · obtain ⟨a, z, g, rfl, h1, h2, h3, h4, h5, q⟩ := h
    rfl
  obtain ⟨a, z, g, rfl, h1, h2, h3, h4, h5, q⟩ := h
  refine ⟨_, pss_cons (ps_set (i := 3) sc_parts_of.nd rfl (Or.inl rfl) (pe_lst (pa_nil)))
    (pss_cons (ps_set (i := 4) sc_parts_of.nd rfl (Or.inl rfl) (pe_callBH call_lenT B.z_len rfl bo_len (pa_cons (pv 0) (pa_nil))))
    (pss_cons (ps_while PassesOwn.never (pt_cmpR op_gt (pv 4) (pe_int) (nomark _)) (pss_cons (ps_expr (pe_bm PySem.F.plainAttrs_list PySem.F.slot_list_append PySem.F.type_list_append mt_append (pv 3) (pa_cons (pe_slice sl_str (pv 0) (po_some (pe_callBH (call_max2N rfl) B.z_max rfl bo_max (pa_cons (pe_int) (pa_cons (pe_op op_sub (pv 4) (pv 1)) (pa_nil))))) (po_some (pv 4))) (pa_nil))))
    (pss_one (ps_set (i := 4) sc_parts_of.nd rfl (Or.inl rfl) (pe_op op_sub (pe_op op_sub (pv 4) (pv 1)) (pv 2))))))
    (pss_cons (ps_expr (pe_bm0 PySem.F.plainAttrs_list PySem.F.slot_list_reverse PySem.F.type_list_reverse mt_reverse (pv 3)))
    (pss_one (ps_ret (pv 3)))))), ?_⟩
  walk_at "st"
  refine r_seq (r_asg (r_lst (r_nil (r_kLstF (by decide) fun l hl => ?_))))
  walk_at "rd"
  refine r_while (fun k σ H' => ∃ (e : Int) (ps : List (List Nat)), σ = [some (.str (T a)), some (.int z), some (.int g), some (.ref l), some (.int e)] ∧ H' = upd H l (.lst (ps.map fun l => V.str (T l))) ∧ k = e.toNat ∧ ps.length + e.toNat ≤ a.length ∧ e ≤ a.length ∧ pcs a z.toNat g.toNat a.length = pcs a z.toNat g.toNat e.toNat ++ ps.reverse) ⟨_, a.length, [], rfl, rfl, rfl, by simp, Int.le_refl _, by simp⟩ ?_
  rintro k σ H' ⟨e, ps, rfl, rfl, rfl, b1, b2, ep⟩
  walk_at "rd"
  · rename_i hc k' hk'
    refine r_append upd_same (small1000 (by rw [List.length_map]; omega)) ?_
    rw [upd_upd]
    walk_at "rd"
    refine ⟨(e - z - g).toNat, by omega, e - z - g, ps ++ [(a.take e.toNat).drop k'.toNat], rfl, by rw [List.map_append]; rfl, rfl, by rw [List.length_append, List.length_singleton]; omega, by omega, ?_⟩
    rw [ep, pcs_pos (by omega) (by omega), List.reverse_append, show (e - z - g).toNat = e.toNat - z.toNat - g.toNat by omega, show k'.toNat = e.toNat - z.toNat by omega]
    simp
  · rename_i hc
    refine r_reverse upd_same ?_
    rw [upd_upd]
    walk_at "rd"
    refine q _ _ (same_upd (Same.refl _) hl) ?_
    rw [upd_same, ep, show e.toNat = 0 by omega, pcs_zero, List.nil_append, List.map_reverse]
theorem ok_grouped {f : Addr} {fd : FuncData} (F : Fun K "grouped" "grouped" s_grouped f fd) (B : Blt mg) (C_parts_of : Has P w K mg base "parts_of" 1 ["text", "size", "between"] (sp_parts_of K)) : FnOk P w K mg base CX0 2 f fd ["text", "size", "mark"] (sp_grouped K) := by
  refine F.ok sc_grouped (fun vs H Q E h => ?_) (fun cdv A outer s H vs Q E hr h => ?_)
  · obtain ⟨a, z, m, rfl, h1, h2, h5, q⟩ := h
    rfl
  obtain ⟨a, z, m, rfl, h1, h2, h5, q⟩ := h
  refine ⟨_, pss_cons (ps_if (pt_cmpR op_eq (pv 1) (pe_int) (nomark _)) (pss_one (ps_ret (pv 0))) (pss_nil))
    (pss_one (ps_ret (pe_bm PySem.F.plainAttrs_str PySem.F.slot_str_join PySem.F.type_str_join mt_joinT (pv 2) (pa_cons (pe_callH C_parts_of hr rfl (pa_cons (pv 0) (pa_cons (pv 1) (pa_cons (pe_int) (pa_nil))))) (pa_nil))))), ?_⟩
  walk_at "st"
  have bd := fun hz : 0 < z.toNat => pcs_bd (a := a) (g := 0) hz a.length a.length (Nat.le_refl _)
  walk_at "rd"
  · rename_i hc
    subst hc
    have q' := q _ (Same.refl _)
    rw [show Int.toNat 0 = 0 from rfl, gr_zero] at q'
    exact q'
  · rename_i hc p' H' g' e'
    have b := bd (by omega)
    refine r_joinT e' (by rw [Lt_T, List.length_singleton, show Int.toNat 0 = 0 from rfl]; omega) ?_
    rw [Lt_T, show Int.toNat 0 = 0 from rfl, gr_jn (by omega)]
    exact q _ g'
theorem ok_body_of {f : Addr} {fd : FuncData} (F : Fun K "body_of" "body_of" s_body_of f fd) (B : Blt mg) (C_grouped : Has P w K mg base "grouped" 2 ["text", "size", "mark"] (sp_grouped K)) (C_figures_of : Has P w K mg base "figures_of" 1 ["number", "base"] (sp_figures_of K)) : FnOk P w K mg base CX0 3 f fd ["number", "base", "places", "point", "size", "mark"] (sp_body_of K) := by
  refine F.ok sc_body_of (fun vs H Q E h => ?_) (fun cdv A outer s H vs Q E hr h => ?_)
  · obtain ⟨n, b, p, z, pt, m, rfl, hn, h2, h3, q⟩ := h
    rfl
  obtain ⟨n, b, p, z, pt, m, rfl, hn, h2, h3, q⟩ := h
  refine ⟨_, pss_cons (ps_set (i := 6) sc_body_of.nd rfl (Or.inl rfl) (pe_bm PySem.F.plainAttrs_str PySem.F.slot_str_rjust PySem.F.type_str_rjust mt_rjustT (pe_callH C_figures_of hr rfl (pa_cons (pv 0) (pa_cons (pv 1) (pa_nil)))) (pa_cons (pe_op op_add (pv 2) (pe_int)) (pa_cons (pe_strT (l := [48]) (by decide +kernel)) (pa_nil)))))
    (pss_cons (ps_set (i := 7) sc_body_of.nd rfl (Or.inl rfl) (pe_op op_sub (pe_callBH call_lenT B.z_len rfl bo_len (pa_cons (pv 6) (pa_nil))) (pv 2)))
    (pss_cons (ps_set (i := 8) sc_body_of.nd rfl (Or.inl rfl) (pe_callH C_grouped hr rfl (pa_cons (pe_slice sl_str (pv 6) (po_none) (po_some (pv 7))) (pa_cons (pv 4) (pa_cons (pv 5) (pa_nil))))))
    (pss_cons (ps_if (pt_cmpR op_eq (pv 2) (pe_int) (nomark _)) (pss_one (ps_ret (pv 8))) (pss_nil))
    (pss_one (ps_ret (pe_op op_addS (pe_op op_addS (pv 8) (pv 3)) (pe_slice sl_str (pv 6) (po_some (pv 7)) (po_none)))))))), ?_⟩
  walk_at "st"
  have big := hn.big
  have hn' := hn
  obtain ⟨n1, n2, n3, n4, n5, n6⟩ := hn'
  have ds := dgs_spec (b := b.toNat) (p := p.toNat) (n := n.toNat) (by omega) (by omega) (by omega) n6
  have ws := whl_spec (b := b.toNat) (p := p.toNat) (n := n.toNat) (by omega) (by omega) (by omega) n6
  have gl := gr_len (z := z.toNat) (m := m) (a := whl b.toNat p.toNat n.toNat)
  walk_at "rd"
  rename_i l el f1 f2 f3 f4 f5
  have ed : List.replicate ((p + 1).toNat - l.length) 48 ++ l = dgs b.toNat p.toNat n.toNat := by
    rw [el]; unfold dgs; rw [show (p + 1).toNat = p.toNat + 1 by omega]
  have ew : (dgs b.toNat p.toNat n.toNat).take (((dgs b.toNat p.toNat n.toNat).length : Int) - p).toNat = whl b.toNat p.toNat n.toNat := by
    unfold whl; rw [show (((dgs b.toNat p.toNat n.toNat).length : Int) - p).toNat = (dgs b.toNat p.toNat n.toNat).length - p.toNat by omega]
  have er : (dgs b.toNat p.toNat n.toNat).drop (((dgs b.toNat p.toNat n.toNat).length : Int) - p).toNat = rst b.toNat p.toNat n.toNat := by
    unfold rst; rw [show (((dgs b.toNat p.toNat n.toNat).length : Int) - p).toNat = (dgs b.toNat p.toNat n.toNat).length - p.toNat by omega]
  rw [ed]
  walk_at "rd"
  rw [ew]
  walk_at "rd"
  · rename_i H1 g1 hc
    have e : bdI n b p pt z m = gr z.toNat m (whl b.toNat p.toNat n.toNat) := by unfold bdI bdy; rw [if_pos (by omega)]
    have q' := q _ g1
    rw [e] at q'; exact q'
  · rename_i H1 g1 hc
    have e : bdI n b p pt z m = gr z.toNat m (whl b.toNat p.toNat n.toNat) ++ [pt] ++ rst b.toNat p.toNat n.toNat := by unfold bdI bdy; rw [if_neg (by omega)]
    have q' := q _ g1
    rw [e] at q'
    rw [er]; exact q'
theorem ok_ungrouped {f : Addr} {fd : FuncData} (F : Fun K "ungrouped" "ungrouped" s_ungrouped f fd) (B : Blt mg) (C_parts_of : Has P w K mg base "parts_of" 1 ["text", "size", "between"] (sp_parts_of K)) (C_grouped : Has P w K mg base "grouped" 2 ["text", "size", "mark"] (sp_grouped K)) {t_MOST_SIGNS : Tok} (g_MOST_SIGNS : mg "MOST_SIGNS" = some (.int 40 t_MOST_SIGNS)){c_NoGroups : Addr} (m_NoGroups : mg "NoGroups" = some (.ref c_NoGroups)) (e_NoGroups : Exc K c_NoGroups) (n_NoGroups : Nm K "NoGroups" c_NoGroups) : FnOk P w K mg base (CXE2 P w) 3 f fd ["text", "size", "mark"] (sp_ungrouped K) := by
  refine F.okX2 sc_ungrouped (fun vs H Q E h => ?_) (fun cdv A outer s H vs Q E hr h tk => ?_)
  · obtain ⟨t, z, m, rfl, h1, h2, h3, q1, q2⟩ := h
    all_goals rfl
  refine ⟨_, pss_cons (ps_set (i := 3) sc_ungrouped.nd rfl (Or.inl rfl) (pe_ifExp (pt_cmpR op_eq (pv 1) (pe_int) (nomark _)) (pv 0) (pe_bm PySem.F.plainAttrs_str PySem.F.slot_str_join PySem.F.type_str_join mt_joinT (pe_strT (l := []) (by decide +kernel)) (pa_cons (pe_callH C_parts_of hr rfl (pa_cons (pv 0) (pa_cons (pv 1) (pa_cons (pe_int) (pa_nil))))) (pa_nil)))))
    (pss_cons (ps_if (PW.pt (pw_or (pt_not (pt_chain op_le op_le (pe_int) (pe_callBH call_lenT B.z_len rfl bo_len (pa_cons (pv 3) (pa_nil))) (pe_glob rfl g_MOST_SIGNS (v := .int 40) ⟨_, rfl⟩))) (pw_or1 (pt_cmpR op_ne (pe_callH C_grouped hr rfl (pa_cons (pv 3) (pa_cons (pv 1) (pa_cons (pv 2) (pa_nil))))) (pv 0) (nomark _))))) (pss_one (ps_raise tk rfl e_NoGroups rfl m_NoGroups (pa_cons (pe_str) (pa_nil)))) (pss_nil))
    (pss_one (ps_ret (pv 3)))), ?_⟩
  obtain ⟨t, z, m, rfl, h1, h2, h3, q1, q2⟩ := h
  all_goals walk_at "st"
  have lu := ug_len (z := z.toNat) (t := t)
  have q2' := fun b H' g => q2 b c_NoGroups H' n_NoGroups g
  rcases Decidable.em (z = 0) with hz | hz
  · subst hz
    have e : ug (Int.toNat 0) t = t := rfl
    have eg : gr (Int.toNat 0) m t = t := gr_zero
    unfold GG at q1 q2'
    rw [e, eg] at q1 q2'
    walk_at "rd"
    · exact q1 ⟨by omega, by omega, rfl⟩ _ (by assumption)
    all_goals exact ⟨small (by decide), q2' (fun z => by have := z.1; have := z.2.1; omega) _ (Same.refl _)⟩
  · have bd := pcs_bd (a := t) (g := 1) (show 0 < z.toNat by omega) t.length t.length (Nat.le_refl _)
    walk_at "rd"
    rename_i p' H' g' e'
    refine r_joinT e' (by rw [Lt_T, List.length_nil, show Int.toNat 1 = 1 from rfl]; omega) ?_
    rw [Lt_T, jn_nil, show Int.toNat 1 = 1 from rfl, ug_fl (by omega)]
    walk_at "rd"
    · exact q1 ⟨by omega, by omega, by assumption⟩ _ (by walk_at "sm")
    · rename_i hc
      exact ⟨small (by decide), q2' (fun z => hc z.2.2) _ (by walk_at "sm")⟩
    all_goals exact ⟨small (by decide), q2' (fun z => by have := z.1; have := z.2.1; omega) _ (by walk_at "sm")⟩
theorem ok_number_of {f : Addr} {fd : FuncData} (F : Fun K "number_of" "number_of" s_number_of f fd) (B : Blt mg) {t_MOST_FIGURES : Tok} {t_FIGURES : Tok} (g_MOST_FIGURES : mg "MOST_FIGURES" = some (.int 240 t_MOST_FIGURES)) (g_FIGURES : mg "FIGURES" = some (.str "0123456789abcdef" t_FIGURES)){c_NoFigures : Addr} (m_NoFigures : mg "NoFigures" = some (.ref c_NoFigures)) (e_NoFigures : Exc K c_NoFigures) (n_NoFigures : Nm K "NoFigures" c_NoFigures) : FnOk P w K mg base (CXE2 P w) 1 f fd ["text", "base"] (sp_number_of K) := by
  refine F.okX2 sc_number_of (fun vs H Q E h => ?_) (fun cdv A outer s H vs Q E hr h tk => ?_)
  · obtain ⟨l, b, rfl, al, h1, h2, h3, h4, q1, q2⟩ := h
    all_goals rfl
  refine ⟨_, pss_cons (ps_if (PW.pt (pw_or (pt_not (pt_val (pe_callBH call_isi B.z_isinstance rfl bo_isinstance (pa_cons (pv 0) (pa_cons (pe_bltn rfl B.z_str bo_str (v := .ty "str") rfl) (pa_nil)))))) (pw_or1 (pt_not (pt_chain op_le op_le (pe_int) (pe_callBH call_lenT B.z_len rfl bo_len (pa_cons (pv 0) (pa_nil))) (pe_glob rfl g_MOST_FIGURES (v := .int 240) ⟨_, rfl⟩)))))) (pss_one (ps_raise tk rfl e_NoFigures rfl m_NoFigures (pa_cons (pe_str) (pa_nil)))) (pss_nil))
    (pss_cons (ps_set (i := 2) sc_number_of.nd rfl (Or.inl rfl) (pe_int))
    (pss_cons (ps_for PassesOwn.leaving rfl (pi_strT (pv 0)) (pg_name (i := 3) sc_number_of.nd rfl (Or.inl rfl)) (pss_cons (ps_set (i := 4) sc_number_of.nd rfl (Or.inl rfl) (pe_bm PySem.F.plainAttrs_str PySem.F.slot_str_find PySem.F.type_str_find mt_findT (pe_glob rfl g_FIGURES (v := .str "0123456789abcdef") ⟨_, rfl⟩) (pa_cons (pv 3) (pa_nil))))
    (pss_cons (ps_if (PW.pt (pw_or (pt_cmpR op_lt (pv 4) (pe_int) (nomark _)) (pw_or1 (pt_cmpR op_ge (pv 4) (pv 1) (nomark _))))) (pss_one (ps_raise tk rfl e_NoFigures rfl m_NoFigures (pa_cons (pe_str) (pa_nil)))) (pss_nil))
    (pss_one (ps_set (i := 2) sc_number_of.nd rfl (Or.inl rfl) (pe_op op_add (pe_op op_mulA (pv 2) (pv 1)) (pv 4)))))))
    (pss_one (ps_ret (pv 2))))), ?_⟩
  obtain ⟨l, b, rfl, al, h1, h2, h3, h4, q1, q2⟩ := h
  all_goals walk_at "st"
  have q2' := fun n => q2 n c_NoFigures n_NoFigures
  walk_at "rd"
  refine r_kForS (fun i σ H' => H' = H ∧ FigB b (l.take i) ∧ ∃ r1 r2 : Option V, σ = [some (.str (T l)), some (.int b), some (.int (val b (l.take i))), r1, r2]) ⟨rfl, by rw [List.take_zero]; exact fun _ z => (nomatch z), none, none, rfl⟩ ?_ ?_
  · rintro i c σ H' hi ⟨rfl, hf, r1, r2, rfl⟩
    have hm := List.mem_of_getElem? hi
    have hc1 := al c hm
    walk_at "rd"
    · exact ⟨small (by decide), q2' (fun z => by have := (z c hm).2.1; omega)⟩
    · exact ⟨small (by decide), q2' (fun z => by have := (z c hm).2.2; omega)⟩
    · refine ⟨rfl, hf.snoc hi hc1 (by omega) (by omega), some (.str (T [c])), some (.int (fv c)), ?_⟩
      rw [List.take_succ, hi, show (some c).toList = [c] from rfl, val_app]; rfl
  · rintro σ H' ⟨rfl, hf, r1, r2, rfl⟩
    rw [List.take_length] at hf
    walk_at "rd"
    rw [List.take_length]; exact q1 hf
theorem ok_whole_end {f : Addr} {fd : FuncData} (F : Fun K "whole_end" "whole_end" s_whole_end f fd) (B : Blt mg){c_NoBody : Addr} (m_NoBody : mg "NoBody" = some (.ref c_NoBody)) (e_NoBody : Exc K c_NoBody) (n_NoBody : Nm K "NoBody" c_NoBody) : FnOk P w K mg base (CXE P w) 1 f fd ["body", "places", "point"] (sp_whole_end K) := by
  refine F.okX sc_whole_end (fun vs H Q E h => ?_) (fun cdv A outer s H vs Q E hr h tk => ?_)
  · obtain ⟨t, p, pt, rfl, h1, h2, h3, q1, q2⟩ := h
    all_goals rfl
  refine ⟨_, pss_cons (ps_if (pt_cmpR op_eq (pv 1) (pe_int) (nomark _)) (pss_one (ps_ret (pe_callBH call_lenT B.z_len rfl bo_len (pa_cons (pv 0) (pa_nil))))) (pss_nil))
    (pss_cons (ps_set (i := 3) sc_whole_end.nd rfl (Or.inl rfl) (pe_op op_sub (pe_op op_sub (pe_callBH call_lenT B.z_len rfl bo_len (pa_cons (pv 0) (pa_nil))) (pv 1)) (pe_int)))
    (pss_cons (ps_if (PW.pt (pw_or (pt_cmpR op_lt (pv 3) (pe_int) (nomark _)) (pw_or1 (pt_cmpR op_ne (pe_ix ix_str (pv 0) (pv 3) (fun _ _ => rfl)) (pv 2) (nomark _))))) (pss_one (ps_raise tk rfl e_NoBody rfl m_NoBody (pa_cons (pe_str) (pa_nil)))) (pss_nil))
    (pss_one (ps_ret (pv 3))))), ?_⟩
  obtain ⟨t, p, pt, rfl, h1, h2, h3, q1, q2⟩ := h
  all_goals walk_at "st"
  have q2' := fun n => q2 n c_NoBody n_NoBody
  walk_at "rd"
  · rename_i hc
    subst hc
    exact q1 (.inl rfl)
  · exact ⟨small (by decide), q2' (fun h => h.elim (fun h => by omega) fun h => by have := h.1; omega)⟩
  · rename_i hc
    have e1 : ((t.length : Int) - p - 1).toNat = t.length - p.toNat - 1 := by omega
    rw [e1] at hc
    have e2 : ((wpart p.toNat t).length : Int) = (t.length : Int) - p - 1 := by unfold wpart; rw [if_neg (by omega), List.length_take]; omega
    have q' := q1 (.inr ⟨by omega, by simpa using hc⟩)
    rw [e2] at q'; exact q'
  · rename_i hc
    have e1 : ((t.length : Int) - p - 1).toNat = t.length - p.toNat - 1 := by omega
    rw [e1] at hc
    exact ⟨small (by decide), q2' (fun h => h.elim (fun h => by omega) fun h => hc (by rw [h.2]))⟩
theorem ok_number_in {f : Addr} {fd : FuncData} (F : Fun K "number_in" "number_in" s_number_in f fd) (B : Blt mg) (C_whole_end : HasX P w K mg base "whole_end" 1 ["body", "places", "point"] (sp_whole_end K)) (C_ungrouped : HasX2 P w K mg base "ungrouped" 3 ["text", "size", "mark"] (sp_ungrouped K)) (C_number_of : HasX2 P w K mg base "number_of" 1 ["text", "base"] (sp_number_of K)){c_NoGroups c_NoFigures c_NoBody : Addr} (m_NoGroups : mg "NoGroups" = some (.ref c_NoGroups)) (m_NoFigures : mg "NoFigures" = some (.ref c_NoFigures)) (m_NoBody : mg "NoBody" = some (.ref c_NoBody)) (e_NoBody : Exc K c_NoBody) (n_NoGroups : Nm K "NoGroups" c_NoGroups) (n_NoFigures : Nm K "NoFigures" c_NoFigures) (n_NoBody : Nm K "NoBody" c_NoBody) (xg : PySem.W.exmAny K (.ref c_NoGroups) [.ref c_NoGroups, .ref c_NoFigures] = some true) (xf : PySem.W.exmAny K (.ref c_NoFigures) [.ref c_NoGroups, .ref c_NoFigures] = some true) : FnOk P w K mg base (CXE P w) 4 f fd ["body", "base", "places", "point", "size", "mark"] (sp_number_in K) := by
  refine F.okX sc_number_in (fun vs H Q E h => ?_) (fun cdv A outer s H vs Q E hr h tk => ?_)
  · obtain ⟨t, b, p, z, pt, m, rfl, h1, h2, h3, h4, h5, h6, h7, h8, q1, q2⟩ := h
    all_goals rfl
  refine ⟨_, pss_cons (ps_set (i := 6) sc_number_in.nd rfl (Or.inl rfl) (pe_callP C_whole_end passes_on hr rfl (pa_cons (pv 0) (pa_cons (pv 2) (pa_cons (pv 3) (pa_nil))))))
    (pss_cons (ps_tryR rfl rfl rfl e_NoBody takes_r (fun _ => PassesOwnAt.leaving) rfl m_NoGroups rfl m_NoFigures rfl m_NoBody (fun _ _ _ => pss_cons (ps_set (i := 7) sc_number_in.nd rfl (Or.inl rfl) (pe_callT2 C_ungrouped hr rfl (pa_cons (pe_slice sl_str (pv 0) (po_none) (po_some (pv 6))) (pa_cons (pv 4) (pa_cons (pv 5) (pa_nil))))))
    (pss_one (ps_set (i := 8) sc_number_in.nd rfl (Or.inl rfl) (pe_callT2 C_number_of hr rfl (pa_cons (pe_op op_addS (pv 7) (pe_slice sl_str (pv 0) (po_some (pe_op op_add (pv 6) (pe_int))) (po_none))) (pa_cons (pv 1) (pa_nil))))))))
    (pss_cons (ps_if (PW.pt (pw_and (pt_cmpR op_gt (pe_callBH call_lenT B.z_len rfl bo_len (pa_cons (pv 7) (pa_nil))) (pe_int) (nomark _)) (pw_and1 (pt_cmpR op_eq (pe_ix ix_str (pv 7) (pe_int) (fun _ _ => rfl)) (pe_strT (l := [48]) (by decide +kernel)) (nomark _))))) (pss_one (ps_raise tk rfl e_NoBody rfl m_NoBody (pa_cons (pe_str) (pa_nil)))) (pss_nil))
    (pss_one (ps_ret (pv 8))))), ?_⟩
  obtain ⟨t, b, p, z, pt, m, rfl, h1, h2, h3, h4, h5, h6, h7, h8, q1, q2⟩ := h
  all_goals walk_at "st"
  have q2' := fun n H' g => q2 n c_NoBody H' n_NoBody g
  walk_at "rd"
  refine ⟨t, p, pt, rfl, h3, h4, h7, fun we => ?_, fun nw C nC => ?_⟩
  · have t1 : t.take ((wpart p.toNat t).length : Int).toNat = wpart p.toNat t := by rw [Int.toNat_natCast]; exact wpart_take
    have t2 : t.drop (((wpart p.toNat t).length : Int) + 1).toNat = rpart p.toNat t := by rw [show (((wpart p.toNat t).length : Int) + 1).toNat = (wpart p.toNat t).length + 1 by omega]; exact wpart_drop we
    have wl := wpart_len (p := p.toNat) (t := t)
    have rl := rpart_len we
    have pa := part_asc (p := p.toNat) (z := z.toNat) h8
    walk_at "rd"
    refine r_tryR [some (.str (T t)), some (.int b), some (.int p), some (.str (T [pt])), some (.int z), some (.str (T [m])), some (.int (wpart p.toNat t).length), none, none] ?_
    walk_at "rd"
    rw [t1]
    refine ⟨wpart p.toNat t, z, m, rfl, h5, h6, by omega, fun gg H1 g1 => ?_, fun ng C H1 nC g1 => ?_⟩
    · have g2 := gg.1; have g3 := gg.2.1
      walk_at "rd"
      rw [t2]
      walk_at "rd"
      refine ⟨_, b, rfl, pa, by rw [List.length_append]; omega, by rw [List.length_append]; omega, h1, h2, fun fb => ?_, fun nf C nC => ?_⟩
      · walk_at "rd"
        · rename_i c1 c2
          exact ⟨small (by decide), q2' (fun h => h.2.2.2 ⟨by omega, by simpa using c2⟩) _ g1⟩
        · rename_i c1 c2
          exact q1 ⟨we, gg, fb, fun h => c2 (by rw [show Int.toNat 0 = 0 from rfl, h.2])⟩ _ g1
        · rename_i c1
          exact q1 ⟨we, gg, fb, fun h => c1 (by have := h.1; omega)⟩ _ g1
      · have := Nm.eq nC n_NoFigures
        subst this
        exact ⟨_, rfl, xf, q2' (fun h => nf h.2.2.1) _ g1⟩
    · have := Nm.eq nC n_NoGroups
      subst this
      exact ⟨_, rfl, xg, q2' (fun h => ng h.2.1) _ g1⟩
  · have := Nm.eq nC n_NoBody
    subst this
    exact q2' (fun h => nw h.1) _ (Same.refl _)
theorem pwN {b : Int} (h1 : 2 ≤ b) (t : Nat) : (b ^ t).toNat = b.toNat ^ t ∧ 1 ≤ b ^ t := by
  obtain ⟨B, rfl⟩ := Int.eq_ofNat_of_zero_le (show 0 ≤ b by omega)
  have e : ((B : Int) ^ t) = ((B ^ t : Nat) : Int) := by simp
  rw [e, Int.toNat_natCast, Int.toNat_natCast]
  have : 1 ≤ B ^ t := Nat.one_le_pow _ _ (by omega)
  exact ⟨rfl, by omega⟩
def sp_law_power (K : PySem.W.Frag) : Sp := fun vs H Q _ => ∃ b t : Int, vs = [.int b, .int t] ∧ 2 ≤ b ∧ b ≤ 16 ∧ 0 ≤ t ∧ t ≤ 60 ∧ Q (.int (b ^ t.toNat)) H
theorem c_power {K : PySem.W.Frag} {b t : Int} {H : Hp} {Q : VK} {E : XK} (h1 : 2 ≤ b) (h2 : b ≤ 16) (h3 : 0 ≤ t) (h4 : t ≤ 60) (q : Q (.int (b ^ t.toNat)) H) : sp_law_power K ([.int b, .int t] ++ []) H Q E := ⟨b, t, rfl, h1, h2, h3, h4, q⟩
local macro_rules | `(tactic| walk_at "rdc") => `(tactic| ((with_reducible refine' c_power ?h1 ?h2 ?h3 ?h4 ?_); (case h1 => omega); (case h2 => omega); (case h3 => omega); (case h4 => omega)))
def sp_law_great (K : PySem.W.Frag) : Sp := fun vs H Q _ => ∃ c t m : Int, vs = [.int c, .int t, .int m] ∧ 0 ≤ t ∧ t < 1000 ∧ 0 < m ∧ ∀ v : Int, 0 ≤ v → v < m → Q (.int v) H
theorem c_great {K : PySem.W.Frag} {c t m : Int} {H : Hp} {Q : VK} {E : XK} (h1 : 0 ≤ t) (h1' : t < 1000) (h2 : 0 < m) (q : ∀ v : Int, 0 ≤ v → v < m → Q (.int v) H) : sp_law_great K ([.int c, .int t, .int m] ++ []) H Q E := ⟨c, t, m, rfl, h1, h1', h2, q⟩
local macro_rules | `(tactic| walk_at "rdc") => `(tactic| ((with_reducible refine' c_great ?h1 ?h1' ?h2 ?_); (case h1 => omega); (case h1' => omega); (case h2 => omega); intro v' h0' h1'))
def sp_law_wide (K : PySem.W.Frag) : Sp := fun vs H Q _ => ∃ c t m : Int, vs = [.int c, .int t, .int m] ∧ 0 ≤ t ∧ t < 900 ∧ 0 < m ∧ ∀ v : Int, 0 ≤ v → v < m → Q (.int v) H
theorem c_wide {K : PySem.W.Frag} {c t m : Int} {H : Hp} {Q : VK} {E : XK} (h1 : 0 ≤ t) (h1' : t < 900) (h2 : 0 < m) (q : ∀ v : Int, 0 ≤ v → v < m → Q (.int v) H) : sp_law_wide K ([.int c, .int t, .int m] ++ []) H Q E := ⟨c, t, m, rfl, h1, h1', h2, q⟩
def sp_law_figures (K : PySem.W.Frag) : Sp := fun vs H Q _ => ∃ n b k : Int, vs = [.int n, .int b, .int k] ∧ 0 ≤ n ∧ 2 ≤ b ∧ b ≤ 16 ∧ n < b ^ 50 ∧ 1 ≤ k ∧ k ≤ 7 ∧ ∀ l : List Nat, Asc l → k ≤ l.length → l.length ≤ 50 → Q (.str (T l)) H
theorem c_figures {K : PySem.W.Frag} {n b k : Int} {H : Hp} {Q : VK} {E : XK} (h1 : 0 ≤ n) (h2 : 2 ≤ b) (h3 : b ≤ 16) (h4 : n < b ^ 50) (h5 : 1 ≤ k) (h6 : k ≤ 7) (q : ∀ l : List Nat, Asc l → k ≤ l.length → l.length ≤ 50 → Q (.str (T l)) H) : sp_law_figures K ([.int n, .int b, .int k] ++ []) H Q E := ⟨n, b, k, rfl, h1, h2, h3, h4, h5, h6, q⟩
local macro_rules | `(tactic| walk_at "rdc") => `(tactic| ((with_reducible refine' c_figures ?h1 ?h2 ?h3 ?h4 ?h5 ?h6 ?_); (case h1 => omega); (case h2 => omega); (case h3 => omega); (case h4 => omega); (case h5 => omega); (case h6 => omega); intro l' al' hl' hl2'))
def sp_law_body (K : PySem.W.Frag) : Sp := fun vs H Q _ => ∃ (n b p z : Int) (pt m : Nat), vs = [.int n, .int b, .int p, .str (T [pt]), .int z, .str (T [m])] ∧ 0 ≤ n ∧ 2 ≤ b ∧ b ≤ 16 ∧ n < b ^ 50 ∧ 0 ≤ p ∧ p ≤ 6 ∧ 0 ≤ z ∧ z ≤ 9 ∧ pt < 127 ∧ m < 127 ∧ ∀ l : List Nat, Asc l → l.length ≤ 150 → Q (.str (T l)) H
theorem c_body {K : PySem.W.Frag} {n b p z : Int} {pt m : Nat} {H : Hp} {Q : VK} {E : XK} (h1 : 0 ≤ n) (h2 : 2 ≤ b) (h3 : b ≤ 16) (h4 : n < b ^ 50) (h5 : 0 ≤ p) (h6 : p ≤ 6) (h7 : 0 ≤ z) (h8 : z ≤ 9) (h9 : pt < 127) (h10 : m < 127) (q : ∀ l : List Nat, Asc l → l.length ≤ 150 → Q (.str (T l)) H) : sp_law_body K ([.int n, .int b, .int p, .str (T [pt]), .int z, .str (T [m])] ++ []) H Q E := ⟨n, b, p, z, pt, m, rfl, h1, h2, h3, h4, h5, h6, h7, h8, h9, h10, q⟩
def sp_law_spoilt (K : PySem.W.Frag) : Sp := fun vs H Q _ => ∃ (t : List Nat) (n : Int) (pt m : Nat), vs = [.str (T t), .int n, .str (T [pt]), .str (T [m])] ∧ Asc t ∧ t.length ≤ 150 ∧ pt < 127 ∧ m < 127 ∧ ∀ (l : List Nat) (H' : Hp), Same H H' → Asc l → l.length ≤ 160 → Q (.str (T l)) H'
theorem c_spoilt {K : PySem.W.Frag} {t : List Nat} {n : Int} {pt m : Nat} {H : Hp} {Q : VK} {E : XK} (h1 : Asc t) (h2 : t.length ≤ 150) (h3 : pt < 127) (h4 : m < 127) (q : ∀ (l : List Nat) (H' : Hp), Same H H' → Asc l → l.length ≤ 160 → Q (.str (T l)) H') : sp_law_spoilt K ([.str (T t), .int n, .str (T [pt]), .str (T [m])] ++ []) H Q E := ⟨t, n, pt, m, rfl, h1, h2, h3, h4, q⟩
def sp_law_worth (K : PySem.W.Frag) : Sp := fun vs H Q _ => ∃ (l : List Nat) (b : Int), vs = [.str (T l), .int b] ∧ Asc l ∧ 2 ≤ b ∧ b ≤ 16 ∧ (FigB b l → Q (.int (val b l)) H) ∧ (¬ FigB b l → Q .non H)
def sp_law_due (K : PySem.W.Frag) : Sp := fun vs H Q _ => ∃ (t : List Nat) (b p z : Int) (pt m : Nat), vs = [.str (T t), .int b, .int p, .str (T [pt]), .int z, .str (T [m])] ∧ 2 ≤ b ∧ b ≤ 16 ∧ 0 ≤ p ∧ p ≤ 6 ∧ 0 ≤ z ∧ z ≤ 9 ∧ t.length ≤ 400 ∧ Asc t ∧ (IsB b p.toNat pt z.toNat m t → Q (.int (bval b p.toNat z.toNat t)) H) ∧ (¬ IsB b p.toNat pt z.toNat m t → Q .non H)
def sp_law_refused (K : PySem.W.Frag) : Sp := fun vs H Q _ => ∃ (t : List Nat) (b p z : Int) (pt m : Nat), vs = [.str (T t), .int b, .int p, .str (T [pt]), .int z, .str (T [m])] ∧ 2 ≤ b ∧ b ≤ 16 ∧ 0 ≤ p ∧ p ≤ 6 ∧ 0 ≤ z ∧ z ≤ 9 ∧ t.length ≤ 400 ∧ Asc t ∧ ¬ IsB b p.toNat pt z.toNat m t ∧ ∀ H', Same H H' → Q (.bl true) H'
theorem c_law_refused {K : PySem.W.Frag} {t : List Nat} {b p z : Int} {pt m : Nat} {H : Hp} {Q : VK} {E : XK} (h1 : 2 ≤ b) (h2 : b ≤ 16) (h3 : 0 ≤ p) (h4 : p ≤ 6) (h5 : 0 ≤ z) (h6 : z ≤ 9) (h7 : t.length ≤ 400) (h8 : Asc t) (g : ¬ IsB b p.toNat pt z.toNat m t) (q : ∀ H', Same H H' → Q (.bl true) H') : sp_law_refused K ([.str (T t), .int b, .int p, .str (T [pt]), .int z, .str (T [m])] ++ []) H Q E := ⟨t, b, p, z, pt, m, rfl, h1, h2, h3, h4, h5, h6, h7, h8, g, q⟩
def sp_law_right (K : PySem.W.Frag) : Sp := fun vs H Q _ => ∃ c : Int, vs = [.int c] ∧ ∀ H', Same H H' → Q (.bl true) H'
theorem c_right {K : PySem.W.Frag} {c : Int} {H : Hp} {Q : VK} {E : XK} (q : ∀ H', Same H H' → Q (.bl true) H') : sp_law_right K ([.int c] ++ []) H Q E := ⟨c, rfl, q⟩
local macro_rules | `(tactic| walk_at "rdc") => `(tactic| ((with_reducible refine' c_right ?_); intro H' g'))
def sp_law (K : PySem.W.Frag) : Sp := fun vs H Q _ => ∃ (a : Addr) (ns : List Int), vs = [.ref a] ∧ SqL K H a (ns.map V.int) ∧ ns.length ≤ 63 ∧ ∀ H', Q (.bl true) H'
theorem ok_law_cell {f : Addr} {fd : FuncData} (F : Fun K "_law_cell" "_law_cell" s_law_cell f fd) (B : Blt mg) : FnOk P w K mg base CX0 1 f fd ["_law_script", "_law_k"] (sp_law_cell K) := by
  refine F.ok sc_law_cell (fun vs H Q E h => ?_) (fun cdv A outer s H vs Q E hr h => ?_)
  · obtain ⟨a, ns, k, rfl, hS, hk, q⟩ := h
    rfl
  obtain ⟨a, ns, k, rfl, hS, hk, q⟩ := h
  refine ⟨_, pss_cons (ps_if (pt_cmpR op_lt (pv 1) (pe_callBH call_lenN B.z_len rfl bo_len (pa_cons (pv 0) (pa_nil))) (nomark _)) (pss_one (ps_ret (pe_ix ix_list (pv 0) (pv 1) (fun _ _ => rfl)))) (pss_nil))
    (pss_one (ps_ret (pe_int))), ?_⟩
  walk_at "st"
  walk_at "rd"
  · rename_i hc
    rw [List.length_map] at hc
    exact r_ixAll hS hk (by rw [List.length_map]; omega) fun x hx => by
      obtain ⟨v, _, rfl⟩ := List.mem_map.mp (List.mem_of_getElem? hx)
      exact q v
  · exact q 0
theorem ok_law_draw {f : Addr} {fd : FuncData} (F : Fun K "_law_draw" "_law_draw" s_law_draw f fd) (B : Blt mg) : FnOk P w K mg base CX0 1 f fd ["_law_cell_here", "_law_salt", "_law_many"] (sp_law_draw K) := by
  refine F.ok sc_law_draw (fun vs H Q E h => ?_) (fun cdv A outer s H vs Q E hr h => ?_)
  · obtain ⟨c, t, m, rfl, ht, hm, q⟩ := h
    rfl
  obtain ⟨c, t, m, rfl, ht, hm, q⟩ := h
  refine ⟨_, pss_cons (ps_if (PW.pt (pw_and (pt_cmpR op_gt (pv 0) (pe_powK (k := 1000000000000000000) (by unfold CPow; decide) (by decide +kernel)) (nomark _)) (pw_and1 (pt_cmpR op_gt (pe_op op_shrP (pv 0) (pe_op op_mulA (pe_int) (pv 1))) (pe_int) (nomark _))))) (pss_one (ps_ret (pe_op op_modP (pe_op op_modP (pe_op op_shrP (pv 0) (pe_op op_mulA (pe_int) (pv 1))) (pe_int)) (pv 2)))) (pss_nil))
    (pss_cons (ps_set (i := 3) sc_law_draw.nd rfl (Or.inl rfl) (pe_op op_modP (pe_op op_add (pe_op op_add (pe_op op_modP (pv 0) (pe_int)) (pe_int)) (pe_op op_mulA (pe_int) (pv 1))) (pe_int)))
    (pss_cons (ps_set (i := 3) sc_law_draw.nd rfl (Or.inl rfl) (pe_op op_modP (pe_op op_mulA (pv 3) (pv 3)) (pe_int)))
    (pss_cons (ps_set (i := 4) sc_law_draw.nd rfl (Or.inl rfl) (pe_op op_modP (pe_op op_mulA (pe_op op_add (pv 3) (pe_int)) (pe_op op_add (pe_op op_add (pe_op op_fdivB (pv 3) (pe_int)) (pe_int)) (pv 1))) (pe_int)))
    (pss_one (ps_ret (pe_op op_modP (pe_op op_fdivB (pv 4) (pe_int)) (pv 2))))))), ?_⟩
  walk_at "st"
  walk_at "rd"
  all_goals exact q _ (Int.emod_nonneg _ (by omega)) (Int.emod_lt_of_pos _ hm)
theorem ok_law_whole {f : Addr} {fd : FuncData} (F : Fun K "_law_whole" "_law_whole" s_law_whole f fd) (B : Blt mg) : FnOk P w K mg base CX0 1 f fd ["_law_found"] (sp_law_whole K) := by
  refine F.ok sc_law_whole (fun vs H Q E h => ?_) (fun cdv A outer s H vs Q E hr h => ?_)
  · obtain ⟨i, rfl, q⟩ := h
    rfl
  obtain ⟨i, rfl, q⟩ := h
  refine ⟨_, pss_one (ps_ret (pe_and (pe_callBH call_isi B.z_isinstance rfl bo_isinstance (pa_cons (pv 0) (pa_cons (pe_bltn rfl B.z_int bo_int (v := .ty "int") rfl) (pa_nil)))) (pe_one (pe_not (pe_callBH call_isi B.z_isinstance rfl bo_isinstance (pa_cons (pv 0) (pa_cons (pe_bltn rfl B.z_bool bo_bool (v := .ty "bool") rfl) (pa_nil)))))))), ?_⟩
  walk_at "st"
  walk_at "rd"
  exact q
theorem ok_law_sign {f : Addr} {fd : FuncData} (F : Fun K "_law_sign" "_law_sign" s_law_sign f fd) (B : Blt mg) (C_law_draw : Has P w K mg base "_law_draw" 1 ["_law_cell_here", "_law_salt", "_law_many"] (sp_law_draw K)) : FnOk P w K mg base CX0 2 f fd ["_law_cell_here", "_law_salt"] (sp_law_sign K) := by
  refine F.ok sc_law_sign (fun vs H Q E h => ?_) (fun cdv A outer s H vs Q E hr h => ?_)
  · obtain ⟨n, t, rfl, h0, q⟩ := h
    rfl
  obtain ⟨n, t, rfl, h0, q⟩ := h
  refine ⟨_, pss_cons (ps_set (i := 2) sc_law_sign.nd rfl (Or.inl rfl) (pe_str))
    (pss_cons (ps_set (i := 3) sc_law_sign.nd rfl (Or.inl rfl) (pe_callH C_law_draw hr rfl (pa_cons (pv 0) (pa_cons (pv 1) (pa_cons (pe_int) (pa_nil))))))
    (pss_cons (ps_if (pt_cmpR op_eq (pv 3) (pe_int) (nomark _)) (pss_one (ps_ret (pe_ix ix_str (pe_str) (pe_callH C_law_draw hr rfl (pa_cons (pv 0) (pa_cons (pe_op op_add (pv 1) (pe_int)) (pa_cons (pe_int) (pa_nil))))) (fun _ _ => rfl)))) (pss_nil))
    (pss_cons (ps_if (pt_cmpR op_eq (pv 3) (pe_int) (nomark _)) (pss_one (ps_ret (pe_ix ix_str (pe_str) (pe_callH C_law_draw hr rfl (pa_cons (pv 0) (pa_cons (pe_op op_add (pv 1) (pe_int)) (pa_cons (pe_int) (pa_nil))))) (fun _ _ => rfl)))) (pss_nil))
    (pss_one (ps_ret (pe_ix ix_str (pv 2) (pe_callH C_law_draw hr rfl (pa_cons (pv 0) (pa_cons (pe_op op_add (pv 1) (pe_int)) (pa_cons (pe_int) (pa_nil))))) (fun _ _ => rfl))))))), ?_⟩
  walk_at "st"
  have a1 : ∀ c ∈ Lt "0123456789abcdef", c < 127 := by decide +kernel
  have a2 : ∀ c ∈ Lt ",. -+()_", c < 127 := by decide +kernel
  have a3 : ∀ c ∈ Lt " !\"#$&'()*+,-./0123456789:;<=>?@ABCDEFGHIJKLMNOPQRSTUVWXYZ[\\]^_`abcdefghijklmnopqrstuvwxyz{|}~", c < 127 := by decide +kernel
  walk_at "rd"
  · first | exact q _ (a1 _ (by assumption)) | exact q _ (fc_ok (by omega)).1
  · exact q _ (a2 _ (by assumption))
  · exact q _ (a3 _ (by assumption))
theorem ok_law_figures {f : Addr} {fd : FuncData} (F : Fun K "_law_figures" "_law_figures" s_law_figures f fd) (B : Blt mg) : FnOk P w K mg base CX0 1 f fd ["_law_number", "_law_base", "_law_least"] (sp_law_figures K) := by
  refine F.ok sc_law_figures (fun vs H Q E h => ?_) (fun cdv A outer s H vs Q E hr h => ?_)
  · obtain ⟨n, b, k, rfl, h1, h2, h3, h4, h5, h6, q⟩ := h
    rfl
  obtain ⟨n, b, k, rfl, h1, h2, h3, h4, h5, h6, q⟩ := h
  refine ⟨_, pss_cons (ps_set (i := 3) sc_law_figures.nd rfl (Or.inl rfl) (pe_strT (l := []) (by decide +kernel)))
    (pss_cons (ps_while PassesOwn.never (PW.pt (pw_or (pt_cmpR op_gt (pv 0) (pe_int) (nomark _)) (pw_or1 (pt_cmpR op_lt (pe_callBH call_lenT B.z_len rfl bo_len (pa_cons (pv 3) (pa_nil))) (pv 2) (nomark _))))) (pss_cons (ps_set (i := 3) sc_law_figures.nd rfl (Or.inl rfl) (pe_op op_addS (pe_ix ix_str (pe_str) (pe_op op_modP (pv 0) (pv 1)) (fun _ _ => rfl)) (pv 3)))
    (pss_one (ps_set (i := 0) sc_law_figures.nd rfl (Or.inl rfl) (pe_op op_fdivB (pv 0) (pv 1))))))
    (pss_one (ps_ret (pv 3)))), ?_⟩
  walk_at "st"
  obtain ⟨N, rfl⟩ := Int.eq_ofNat_of_zero_le h1
  obtain ⟨m, rfl⟩ := Int.eq_ofNat_of_zero_le (show 0 ≤ b by omega)
  have em : ∀ k : Nat, (k : Int) % (m : Int) = ((k % m : Nat) : Int) := fun k => (Int.natCast_emod k m).symm
  have ed : ∀ k : Nat, (k : Int) / (m : Int) = ((k / m : Nat) : Int) := fun k => (Int.natCast_ediv k m).symm
  have lm : ∀ k : Nat, k % m < m := fun k => Nat.mod_lt k (by omega)
  have h4' : N < m ^ 50 := by
    have e : ((m ^ 50 : Nat) : Int) = (m : Int) ^ 50 := by simp
    omega
  walk_at "rd"
  refine r_while (fun w σ H' => H' = H ∧ ∃ (j : Nat) (l : List Nat), w = j + (8 - l.length) ∧ Asc l ∧ l.length ≤ 50 ∧ j < m ^ (50 - l.length) ∧ σ = [some (.int j), some (.int m), some (.int k), some (.str (T l))]) ⟨_, rfl, N, [], rfl, Asc.nil, by decide, h4', rfl⟩ ?_
  rintro w σ H' ⟨rfl, j, l, rfl, al, hl, hj, rfl⟩
  have lj := lm j
  have ej := em j
  have fa := (fc_ok (show j % m < 16 by omega)).1
  have nx : (0 < j ∨ l.length < 8) → l.length + 1 ≤ 50 ∧ j / m < m ^ (50 - (l.length + 1)) := fun hh => by
    have l50 : l.length < 50 := by
      rcases Nat.lt_or_ge l.length 50 with y | y
      · exact y
      · rw [show 50 - l.length = 0 by omega, Nat.pow_zero] at hj
        omega
    refine ⟨by omega, ?_⟩
    have e : m ^ (50 - l.length) = m ^ (50 - (l.length + 1)) * m := by rw [← Nat.pow_succ]; congr 1; omega
    rw [Nat.div_lt_iff_lt_mul (by omega), ← e]
    exact hj
  have nl : ([fc (j % m)] ++ l).length = l.length + 1 := by rw [List.length_append]; exact Nat.add_comm _ _
  walk_at "rd"
  · have n1 := nx (.inl (by omega))
    have dl : j / m < j := Nat.div_lt_self (by omega) (by omega)
    exact ⟨_, by rw [nl]; omega, rfl, j / m, [fc (j % m)] ++ l, rfl, (Asc.one fa).app al, by rw [nl]; exact n1.1, by rw [nl]; exact n1.2, by rw [em j, ed j, Int.toNat_natCast]; rfl⟩
  · have n1 := nx (.inr (by omega))
    have j0 : j = 0 := by omega
    subst j0
    exact ⟨_, by rw [nl, Nat.zero_div]; omega, rfl, 0 / m, [fc (0 % m)] ++ l, rfl, (Asc.one fa).app al, by rw [nl]; exact n1.1, by rw [nl]; exact n1.2, by rw [em 0, ed 0, Int.toNat_natCast]; rfl⟩
  · exact q l al (by omega) hl
theorem ok_law_body {f : Addr} {fd : FuncData} (F : Fun K "_law_body" "_law_body" s_law_body f fd) (B : Blt mg) (C_law_figures : Has P w K mg base "_law_figures" 1 ["_law_number", "_law_base", "_law_least"] (sp_law_figures K)) : FnOk P w K mg base CX0 2 f fd ["_law_number", "_law_base", "_law_places", "_law_point", "_law_size", "_law_mark"] (sp_law_body K) := by
  refine F.ok sc_law_body (fun vs H Q E h => ?_) (fun cdv A outer s H vs Q E hr h => ?_)
  · obtain ⟨n, b, p, z, pt, m, rfl, h1, h2, h3, h4, h5, h6, h7, h8, h9, h10, q⟩ := h
    rfl
  obtain ⟨n, b, p, z, pt, m, rfl, h1, h2, h3, h4, h5, h6, h7, h8, h9, h10, q⟩ := h
  refine ⟨_, pss_cons (ps_set (i := 6) sc_law_body.nd rfl (Or.inl rfl) (pe_callH C_law_figures hr rfl (pa_cons (pv 0) (pa_cons (pv 1) (pa_cons (pe_op op_add (pv 2) (pe_int)) (pa_nil))))))
    (pss_cons (ps_set (i := 7) sc_law_body.nd rfl (Or.inl rfl) (pe_slice sl_str (pv 6) (po_none) (po_some (pe_op op_sub (pe_callBH call_lenT B.z_len rfl bo_len (pa_cons (pv 6) (pa_nil))) (pv 2)))))
    (pss_cons (ps_set (i := 8) sc_law_body.nd rfl (Or.inl rfl) (pe_strT (l := []) (by decide +kernel)))
    (pss_cons (ps_for PassesOwn.never rfl (pi_range1 rfl B.z_range (pa_cons (pe_callBH call_lenT B.z_len rfl bo_len (pa_cons (pv 7) (pa_nil))) (pa_nil))) (pg_name (i := 9) sc_law_body.nd rfl (Or.inl rfl)) (pss_cons (ps_if (PW.pt (pw_and (pt_cmpR op_gt (pv 4) (pe_int) (nomark _)) (pw_and (pt_cmpR op_gt (pv 9) (pe_int) (nomark _)) (pw_and1 (pt_cmpR op_eq (pe_op op_modP (pe_op op_sub (pe_callBH call_lenT B.z_len rfl bo_len (pa_cons (pv 7) (pa_nil))) (pv 9)) (pv 4)) (pe_int) (nomark _)))))) (pss_one (ps_set (i := 8) sc_law_body.nd rfl (Or.inl rfl) (pe_op op_addS (pv 8) (pv 5)))) (pss_nil))
    (pss_one (ps_set (i := 8) sc_law_body.nd rfl (Or.inl rfl) (pe_op op_addS (pv 8) (pe_ix ix_str (pv 7) (pv 9) (fun _ _ => rfl)))))))
    (pss_cons (ps_if (pt_cmpR op_eq (pv 2) (pe_int) (nomark _)) (pss_one (ps_ret (pv 8))) (pss_nil))
    (pss_one (ps_ret (pe_op op_addS (pe_op op_addS (pv 8) (pv 3)) (pe_slice sl_str (pv 6) (po_some (pe_op op_sub (pe_callBH call_lenT B.z_len rfl bo_len (pa_cons (pv 6) (pa_nil))) (pv 2))) (po_none))))))))), ?_⟩
  walk_at "st"
  walk_at "rd"
  rename_i L aL hL1 hL2
  have wa : Asc (L.take ((L.length : Int) - p).toNat) := aL.take _
  have wl : (L.take ((L.length : Int) - p).toNat).length = L.length - p.toNat := by rw [List.length_take]; omega
  have ra : Asc (L.drop ((L.length : Int) - p).toNat) := aL.drop _
  have rl : (L.drop ((L.length : Int) - p).toNat).length = p.toNat := by rw [List.length_drop]; omega
  generalize L.take ((L.length : Int) - p).toNat = W at *
  refine r_kForR (by omega) (by omega) (fun k σ H' => H' = H ∧ ∃ (l : List Nat) (r : Option V), l.length ≤ 2 * k ∧ Asc l ∧ σ = [some (.int n), some (.int b), some (.int p), some (.str (T [pt])), some (.int z), some (.str (T [m])), some (.str (T L)), some (.str (T W)), some (.str (T l)), r]) ⟨rfl, [], none, by simp, Asc.nil, rfl⟩ ?_ ?_
  · rintro k σ H' hk ⟨rfl, l, r, hl, al, rfl⟩
    have ga := getD_asc (i := (0 + (k : Int)).toNat) wa (by omega)
    walk_at "rd"
    · exact ⟨rfl, l ++ [m] ++ [W.getD (0 + (k : Int)).toNat 0], _, by simp only [List.length_append, List.length_singleton]; omega, (al.app (Asc.one h10)).app (Asc.one ga), rfl⟩
    all_goals exact ⟨rfl, l ++ [W.getD (0 + (k : Int)).toNat 0], _, by simp only [List.length_append, List.length_singleton]; omega, al.app (Asc.one ga), rfl⟩
  · rintro σ H' ⟨rfl, l, r, hl, al, rfl⟩
    rw [Int.toNat_natCast] at hl
    walk_at "rd"
    · exact q _ al (by omega)
    · exact q _ ((al.app (Asc.one h9)).app ra) (by simp only [List.length_append, List.length_singleton]; omega)
theorem ok_law_spoilt {f : Addr} {fd : FuncData} (F : Fun K "_law_spoilt" "_law_spoilt" s_law_spoilt f fd) (B : Blt mg) (C_law_draw : Has P w K mg base "_law_draw" 1 ["_law_cell_here", "_law_salt", "_law_many"] (sp_law_draw K)) (C_law_sign : Has P w K mg base "_law_sign" 2 ["_law_cell_here", "_law_salt"] (sp_law_sign K)) : FnOk P w K mg base CX0 3 f fd ["_law_text", "_law_cell_here", "_law_point", "_law_mark"] (sp_law_spoilt K) := by
  refine F.ok sc_law_spoilt (fun vs H Q E h => ?_) (fun cdv A outer s H vs Q E hr h => ?_)
  · obtain ⟨t, n, pt, m, rfl, h1, h2, h3, h4, q⟩ := h
    rfl
  obtain ⟨t, n, pt, m, rfl, h1, h2, h3, h4, q⟩ := h
  refine ⟨_, pss_cons (ps_set (i := 4) sc_law_spoilt.nd rfl (Or.inl rfl) (pe_callH C_law_draw hr rfl (pa_cons (pv 1) (pa_cons (pe_int) (pa_cons (pe_int) (pa_nil))))))
    (pss_cons (ps_set (i := 5) sc_law_spoilt.nd rfl (Or.inl rfl) (pe_callH C_law_draw hr rfl (pa_cons (pv 1) (pa_cons (pe_int) (pa_cons (pe_op op_add (pe_callBH call_lenT B.z_len rfl bo_len (pa_cons (pv 0) (pa_nil))) (pe_int)) (pa_nil))))))
    (pss_cons (ps_set (i := 6) sc_law_spoilt.nd rfl (Or.inl rfl) (pe_ix ix_str (pe_strT (l := [65, 66, 67, 68, 69, 70]) (by decide +kernel)) (pe_callH C_law_draw hr rfl (pa_cons (pv 1) (pa_cons (pe_int) (pa_cons (pe_int) (pa_nil))))) (fun _ _ => rfl)))
    (pss_cons (ps_set (i := 7) sc_law_spoilt.nd rfl (Or.inl rfl) (pe_ix ix_list (pe_lst (pa_cons (pv 3) (pa_cons (pv 2) (pa_cons (pe_strT (l := [48]) (by decide +kernel)) (pa_cons (pe_strT (l := [49]) (by decide +kernel)) (pa_cons (pe_callH C_law_sign hr rfl (pa_cons (pv 1) (pa_cons (pe_int) (pa_nil)))) (pa_cons (pv 6) (pa_nil)))))))) (pe_callH C_law_draw hr rfl (pa_cons (pv 1) (pa_cons (pe_int) (pa_cons (pe_int) (pa_nil))))) (fun _ _ => rfl)))
    (pss_cons (ps_if (pt_cmpR op_lt (pv 4) (pe_int) (nomark _)) (pss_one (ps_ret (pe_op op_addS (pe_op op_addS (pe_slice sl_str (pv 0) (po_none) (po_some (pv 5))) (pv 7)) (pe_slice sl_str (pv 0) (po_some (pv 5)) (po_none))))) (pss_nil))
    (pss_cons (ps_if (pt_cmpR op_eq (pv 4) (pe_int) (nomark _)) (pss_one (ps_ret (pe_op op_addS (pe_slice sl_str (pv 0) (po_none) (po_some (pv 5))) (pe_slice sl_str (pv 0) (po_some (pe_op op_add (pv 5) (pe_int))) (po_none))))) (pss_nil))
    (pss_cons (ps_if (pt_cmpR op_lt (pv 4) (pe_int) (nomark _)) (pss_one (ps_ret (pe_op op_addS (pe_op op_addS (pe_slice sl_str (pv 0) (po_none) (po_some (pv 5))) (pv 7)) (pe_slice sl_str (pv 0) (po_some (pe_op op_add (pv 5) (pe_int))) (po_none))))) (pss_nil))
    (pss_cons (ps_if (pt_cmpR op_lt (pv 4) (pe_int) (nomark _)) (pss_one (ps_ret (pe_ix ix_list (pe_lst (pa_cons (pe_op op_addS (pe_strT (l := [48]) (by decide +kernel)) (pv 0)) (pa_cons (pe_op op_addS (pv 3) (pv 0)) (pa_cons (pe_ix ix_list (pe_lst (pa_cons (pe_slice sl_str (pv 0) (po_none) (po_some (pv 5))) (pa_cons (pe_slice sl_str (pv 0) (po_some (pv 5)) (po_none)) (pa_nil)))) (pe_op op_modP (pv 5) (pe_int)) (fun _ _ => rfl)) (pa_nil))))) (pe_op op_sub (pv 4) (pe_int)) (fun _ _ => rfl)))) (pss_nil))
    (pss_one (ps_ret (pv 0)))))))))), ?_⟩
  walk_at "st"
  walk_at "rd"
  rename_i v3 h03 h13 v2 h02 h12 v1 h01 h11 c0 hc0 p1 H1 g1 e1 v0 h00 h10
  have aG := getD_asc (t := [65, 66, 67, 68, 69, 70]) (i := v1.toNat) (by unfold Asc; decide) (by show _ < 6; omega)
  refine r_ixAll (SqL.of e1) (by omega) (by show _ < (6 : Int); omega) fun x hx => ?_
  have hm := List.mem_of_getElem? hx
  simp only [List.mem_cons, List.not_mem_nil, or_false] at hm
  have hx : ∃ c : Nat, x = .str (T [c]) ∧ c < 127 := by
    rcases hm with rfl | rfl | rfl | rfl | rfl | rfl
    · exact ⟨_, rfl, h4⟩
    · exact ⟨_, rfl, h3⟩
    · exact ⟨_, rfl, by decide⟩
    · exact ⟨_, rfl, by decide⟩
    · exact ⟨_, rfl, hc0⟩
    · exact ⟨_, rfl, aG⟩
  obtain ⟨c, rfl, hc⟩ := hx
  clear hm e1 aG
  have a1 : Asc (t.take v2.toNat) := h1.take _
  have a2 : Asc (t.drop v2.toNat) := h1.drop _
  have a3 : Asc (t.drop (v2 + 1).toNat) := h1.drop _
  have b1 : (t.take v2.toNat).length ≤ 150 := by rw [List.length_take]; omega
  have b2 : (t.drop v2.toNat).length ≤ 150 := by rw [List.length_drop]; omega
  have b3 : (t.take v2.toNat).length + (t.drop v2.toNat).length ≤ 150 := by rw [List.length_take, List.length_drop]; omega
  have b4 : (t.drop (v2 + 1).toNat).length ≤ (t.drop v2.toNat).length := by rw [List.length_drop, List.length_drop]; omega
  have o1 := Asc.one hc
  have o48 : Asc [48] := Asc.one (by decide)
  have om := Asc.one h4
  walk_at "rd"
  · exact q _ _ g1 ((a1.app o1).app a2) (by simp only [List.length_append, List.length_singleton]; omega)
  · exact q _ _ g1 (a1.app a3) (by simp only [List.length_append]; omega)
  · exact q _ _ g1 ((a1.app o1).app a3) (by simp only [List.length_append, List.length_singleton]; omega)
  · rename_i p2 H2 g2 e2 hi p3 H3 g3 e3
    refine r_ixAll (SqL.of e3) (by omega) (by show _ < (3 : Int); omega) fun x hx => ?_
    have hm := List.mem_of_getElem? hx
    simp only [List.mem_cons, List.not_mem_nil, or_false] at hm
    rcases hm with rfl | rfl | rfl
    · exact q _ _ (by walk_at "sm") (o48.app h1) (by simp only [List.length_append, List.length_singleton]; omega)
    · exact q _ _ (by walk_at "sm") (om.app h1) (by simp only [List.length_append, List.length_singleton]; omega)
    · exact q _ _ (by walk_at "sm") a1 (by omega)
  · rename_i p2 H2 g2 e2 hi p3 H3 g3 e3
    refine r_ixAll (SqL.of e3) (by omega) (by show _ < (3 : Int); omega) fun x hx => ?_
    have hm := List.mem_of_getElem? hx
    simp only [List.mem_cons, List.not_mem_nil, or_false] at hm
    rcases hm with rfl | rfl | rfl
    · exact q _ _ (by walk_at "sm") (o48.app h1) (by simp only [List.length_append, List.length_singleton]; omega)
    · exact q _ _ (by walk_at "sm") (om.app h1) (by simp only [List.length_append, List.length_singleton]; omega)
    · exact q _ _ (by walk_at "sm") a2 (by omega)
  · exact q _ _ g1 h1 (by omega)
theorem ok_law_worth {f : Addr} {fd : FuncData} (F : Fun K "_law_worth" "_law_worth" s_law_worth f fd) (B : Blt mg) : FnOk P w K mg base CX0 1 f fd ["_law_text", "_law_base"] (sp_law_worth K) := by
  refine F.ok sc_law_worth (fun vs H Q E h => ?_) (fun cdv A outer s H vs Q E hr h => ?_)
  · obtain ⟨l, b, rfl, al, h3, h4, q1, q2⟩ := h
    rfl
  obtain ⟨l, b, rfl, al, h3, h4, q1, q2⟩ := h
  refine ⟨_, pss_cons (ps_set (i := 2) sc_law_worth.nd rfl (Or.inl rfl) (pe_int))
    (pss_cons (ps_for PassesOwn.never rfl (pi_strT (pv 0)) (pg_name (i := 3) sc_law_worth.nd rfl (Or.inl rfl)) (pss_cons (ps_set (i := 4) sc_law_worth.nd rfl (Or.inl rfl) (pe_bm PySem.F.plainAttrs_str PySem.F.slot_str_find PySem.F.type_str_find mt_findT (pe_str) (pa_cons (pv 3) (pa_nil))))
    (pss_cons (ps_if (pt_not (pt_chain op_le op_lt (pe_int) (pv 4) (pv 1))) (pss_one (ps_ret (pe_non))) (pss_nil))
    (pss_one (ps_set (i := 2) sc_law_worth.nd rfl (Or.inl rfl) (pe_op op_add (pe_op op_mulA (pv 2) (pv 1)) (pv 4)))))))
    (pss_one (ps_ret (pv 2)))), ?_⟩
  walk_at "st"
  walk_at "rd"
  refine r_kForS (fun i σ H' => H' = H ∧ FigB b (l.take i) ∧ ∃ r1 r2 : Option V, σ = [some (.str (T l)), some (.int b), some (.int (val b (l.take i))), r1, r2]) ⟨rfl, by rw [List.take_zero]; exact fun _ z => (nomatch z), none, none, rfl⟩ ?_ ?_
  · rintro i c σ H' hi ⟨rfl, hf, r1, r2, rfl⟩
    have hm := List.mem_of_getElem? hi
    have hc1 := al c hm
    walk_at "rd"
    · refine ⟨rfl, hf.snoc hi hc1 (by omega) (by omega), some (.str (T [c])), some (.int (fv c)), ?_⟩
      rw [List.take_succ, hi, show (some c).toList = [c] from rfl, val_app]; rfl
    · exact q2 (fun z => by have := (z c hm).2.2; omega)
    · exact q2 (fun z => by have := (z c hm).2.1; omega)
  · rintro σ H' ⟨rfl, hf, r1, r2, rfl⟩
    rw [List.take_length] at hf
    walk_at "rd"
    rw [List.take_length]; exact q1 hf
theorem ok_law_due {f : Addr} {fd : FuncData} (F : Fun K "_law_due" "_law_due" s_law_due f fd) (B : Blt mg) (C_law_worth : Has P w K mg base "_law_worth" 1 ["_law_text", "_law_base"] (sp_law_worth K)) : FnOk P w K mg base CX0 2 f fd ["_law_text", "_law_base", "_law_places", "_law_point", "_law_size", "_law_mark"] (sp_law_due K) := by
  refine F.ok sc_law_due (fun vs H Q E h => ?_) (fun cdv A outer s H vs Q E hr h => ?_)
  · obtain ⟨t, b, p, z, pt, m, rfl, h1, h2, h3, h4, h5, h6, h7, h8, q1, q2⟩ := h
    rfl
  obtain ⟨t, b, p, z, pt, m, rfl, h1, h2, h3, h4, h5, h6, h7, h8, q1, q2⟩ := h
  refine ⟨_, pss_cons (ps_set (i := 6) sc_law_due.nd rfl (Or.inl rfl) (pv 0))
    (pss_cons (ps_if (pt_cmpR op_gt (pv 2) (pe_int) (nomark _)) (pss_cons (ps_if (PW.pt (pw_or (pt_cmpR op_lt (pe_callBH call_lenT B.z_len rfl bo_len (pa_cons (pv 0) (pa_nil))) (pe_op op_add (pv 2) (pe_int)) (nomark _)) (pw_or1 (pt_cmpR op_ne (pe_ix ix_str (pv 0) (pe_op op_sub (pe_op op_sub (pe_callBH call_lenT B.z_len rfl bo_len (pa_cons (pv 0) (pa_nil))) (pv 2)) (pe_int)) (fun _ _ => rfl)) (pv 3) (nomark _))))) (pss_one (ps_ret (pe_non))) (pss_nil))
    (pss_one (ps_set (i := 6) sc_law_due.nd rfl (Or.inl rfl) (pe_slice sl_str (pv 0) (po_none) (po_some (pe_op op_sub (pe_op op_sub (pe_callBH call_lenT B.z_len rfl bo_len (pa_cons (pv 0) (pa_nil))) (pv 2)) (pe_int))))))) (pss_nil))
    (pss_cons (ps_set (i := 7) sc_law_due.nd rfl (Or.inl rfl) (pe_strT (l := []) (by decide +kernel)))
    (pss_cons (ps_for PassesOwn.never rfl (pi_range1 rfl B.z_range (pa_cons (pe_callBH call_lenT B.z_len rfl bo_len (pa_cons (pv 6) (pa_nil))) (pa_nil))) (pg_name (i := 8) sc_law_due.nd rfl (Or.inl rfl)) (pss_one (ps_if (PW.pt (pw_and (pt_cmpR op_gt (pv 4) (pe_int) (nomark _)) (pw_and1 (pt_cmpR op_eq (pe_op op_modP (pe_op op_sub (pe_op op_sub (pe_callBH call_lenT B.z_len rfl bo_len (pa_cons (pv 6) (pa_nil))) (pe_int)) (pv 8)) (pe_op op_add (pv 4) (pe_int))) (pv 4) (nomark _))))) (pss_one (ps_if (PW.pt (pw_or (pt_cmpR op_ne (pe_ix ix_str (pv 6) (pv 8) (fun _ _ => rfl)) (pv 5) (nomark _)) (pw_or1 (pt_cmpR op_eq (pv 8) (pe_int) (nomark _))))) (pss_one (ps_ret (pe_non))) (pss_nil))) (pss_one (ps_set (i := 7) sc_law_due.nd rfl (Or.inl rfl) (pe_op op_addS (pv 7) (pe_ix ix_str (pv 6) (pv 8) (fun _ _ => rfl))))))))
    (pss_cons (ps_if (PW.pt (pw_or (pt_not (pt_chain op_le op_le (pe_int) (pe_callBH call_lenT B.z_len rfl bo_len (pa_cons (pv 7) (pa_nil))) (pe_int))) (pw_or1 (PW.pt (pw_and (pt_cmpR op_gt (pe_callBH call_lenT B.z_len rfl bo_len (pa_cons (pv 7) (pa_nil))) (pe_int) (nomark _)) (pw_and1 (pt_cmpR op_eq (pe_ix ix_str (pv 7) (pe_int) (fun _ _ => rfl)) (pe_strT (l := [48]) (by decide +kernel)) (nomark _)))))))) (pss_one (ps_ret (pe_non))) (pss_nil))
    (pss_one (ps_ret (pe_callH C_law_worth hr rfl (pa_cons (pe_op op_addS (pv 7) (pe_slice sl_str (pe_slice sl_str (pv 0) (po_some (pe_callBH call_lenT B.z_len rfl bo_len (pa_cons (pv 6) (pa_nil)))) (po_none)) (po_some (pe_int)) (po_none))) (pa_cons (pv 1) (pa_nil)))))))))), ?_⟩
  walk_at "st"
  obtain ⟨Z, rfl⟩ := Int.eq_ofNat_of_zero_le h5
  rw [Int.toNat_natCast] at q1 q2
  walk_at "rd"
  · exact q2 (fun h => by
      have a := h.2.1.1
      have b := ug_len (z := Z) (t := wpart p.toNat t)
      have c : (wpart p.toNat t).length = t.length - p.toNat - 1 := by unfold wpart; rw [if_neg (by omega), List.length_take]; omega
      omega)
  · rename_i hc
    have eW : t.take ((t.length : Int) - p - 1).toNat = wpart p.toNat t := by unfold wpart; rw [if_neg (by omega), show ((t.length : Int) - p - 1).toNat = t.length - p.toNat - 1 by omega]
    rw [show ((t.length : Int) - p - 1).toNat = t.length - p.toNat - 1 by omega] at hc
    have we : WE p.toNat pt t := .inr ⟨by omega, by simpa using hc⟩
    rw [eW]
    have wl := wpart_len (p := p.toNat) (t := t)
    have wd := wpart_drop we
    have pa := part_asc (p := p.toNat) (z := Z) h8
    have rl := rpart_len we
    generalize hW : wpart p.toNat t = W at *
    refine r_kForR (by omega) (by omega) (fun k σ H' => H' = H ∧ (0 < Z → ∀ j, j < k → (W.length - 1 - j) % (Z + 1) = Z → W.getD j 0 = m ∧ j ≠ 0) ∧ ∃ (l : List Nat) (r : Option V), l.length ≤ k ∧ l ++ ug Z (W.drop k) = ug Z W ∧ σ = [some (.str (T t)), some (.int b), some (.int p), some (.str (T [pt])), some (.int Z), some (.str (T [m])), some (.str (T W)), some (.str (T l)), r]) ⟨rfl, fun _ j hj => by omega, [], none, by simp, by simp, rfl⟩ ?_ ?_
    · rintro k σ H' hk ⟨rfl, hmk, l, r, hll, hlu, rfl⟩
      have tn := ug_turn (z := Z) (t := W) (k := k) (by omega)
      have em : ((W.length : Int) - 1 - (0 + (k : Int))) % ((Z : Int) + 1) = (((W.length - 1 - k) % (Z + 1) : Nat) : Int) := by
        rw [show (W.length : Int) - 1 - (0 + (k : Int)) = ((W.length - 1 - k : Nat) : Int) by omega]
        exact (Int.natCast_emod (W.length - 1 - k) (Z + 1)).symm
      have ek : (0 + (k : Int)).toNat = k := by omega
      have snoc : ∀ {P : Nat → Prop}, (∀ j, j < k → P j) → P k → ∀ j, j < k + 1 → P j := fun {P} a b j hj => by
        rcases Nat.lt_or_ge j k with y | y
        · exact a j y
        · rw [show j = k by omega]; exact b
      have gm : IsB b (Int.toNat p) pt Z m t → GG Z m W := fun h => by have g := h.2.1; rw [hW] at g; exact g
      walk_at "rd"
      · rename_i d1 d2 d3 d4
        rw [em] at d2
        have k0 : k = 0 := by omega
        exact q2 (fun h => (gm h).marks0 (by omega) (k := k) (by omega) (by omega) k0)
      · rename_i d1 d2 d3 d4
        rw [em] at d2
        rw [ek] at d3
        rw [if_pos ⟨by omega, by omega⟩, List.nil_append] at tn
        exact ⟨rfl, fun hz => snoc (hmk hz) fun _ => ⟨by simpa using d3, by omega⟩, l, _, by omega, by rw [← tn]; exact hlu, rfl⟩
      · rename_i d1 d2 d3
        rw [em] at d2
        rw [ek] at d3
        exact q2 (fun h => d3 (by rw [(gm h).marks (by omega) (by omega) (by omega)]))
      · rename_i d1 d2
        rw [em] at d2
        rw [if_neg (by omega)] at tn
        refine ⟨rfl, fun hz => snoc (hmk hz) fun z => absurd z (by omega), l ++ [W.getD (0 + (k : Int)).toNat 0], _, by rw [List.length_append, List.length_singleton]; omega, ?_, rfl⟩
        rw [ek, List.append_assoc, ← tn]; exact hlu
      · rename_i d1
        rw [if_neg (by omega)] at tn
        refine ⟨rfl, fun hz => absurd hz (by omega), l ++ [W.getD (0 + (k : Int)).toNat 0], _, by rw [List.length_append, List.length_singleton]; omega, ?_, rfl⟩
        rw [ek, List.append_assoc, ← tn]; exact hlu
    · rintro σ H' ⟨rfl, hmk, l, r, hll, hlu, rfl⟩
      rw [Int.toNat_natCast, List.drop_length, show ug Z [] = [] by unfold ug; split; rfl; rw [List.reverse_nil, UJ_nil]; rfl, List.append_nil] at hlu
      rw [Int.toNat_natCast] at hmk hll
      subst hlu
      have fin : 1 ≤ (ug Z W).length → (ug Z W).length ≤ 40 → NZ (ug Z W) → sp_law_worth K ([.str (T (ug Z W ++ (t.drop (W.length : Int).toNat).drop (Int.toNat 1))), .int b] ++ []) H' Q E0 := fun n1 n2 nz => by
        have gg : GG Z m W := GG.by_marks n1 n2 hmk
        have e : (t.drop (W.length : Int).toNat).drop (Int.toNat 1) = rpart (Int.toNat p) t := by rw [Int.toNat_natCast, List.drop_drop]; exact wd
        rw [e]
        refine ⟨_, b, rfl, pa, h1, h2, fun fb => ?_, fun nf => ?_⟩
        · have q' := q1 ⟨we, by rw [hW]; exact gg, by rw [hW]; exact fb, by rw [hW]; exact nz⟩
          unfold bval at q'
          rw [hW] at q'
          exact q'
        · exact q2 (fun h => nf (by have g := h.2.2.1; rw [hW] at g; exact g))
      have lens : IsB b (Int.toNat p) pt Z m t → 1 ≤ (ug Z W).length ∧ (ug Z W).length ≤ 40 ∧ NZ (ug Z W) := fun h => by
        have g := h.2.1; have n := h.2.2.2
        rw [hW] at g n
        exact ⟨g.1, g.2.1, n⟩
      walk_at "rd"
      · rename_i d1 d2 d3 d4
        exact q2 (fun h => (lens h).2.2 ⟨by omega, by simpa using d4⟩)
      · rename_i d1 d2 d3 d4
        exact fin (by omega) (by omega) (fun h => d4 (by rw [show Int.toNat 0 = 0 from rfl, h.2]))
      · rename_i d1 d2 d3
        exact fin (by omega) (by omega) (fun h => d3 (by have := h.1; omega))
      · rename_i d1 d2
        exact q2 (fun h => d2 (by have := (lens h).2.1; omega))
      · rename_i d1
        exact q2 (fun h => d1 (by have := (lens h).1; omega))
  · rename_i hc
    exact q2 (fun h => by
      have w := h.1
      rcases w with w | w
      · omega
      · rw [show ((t.length : Int) - p - 1).toNat = t.length - p.toNat - 1 by omega, w.2] at hc
        exact hc rfl)
  · obtain rfl : p = 0 := by omega
    have we : WE (Int.toNat 0) pt t := .inl rfl
    have wd := wpart_drop we
    have pa := part_asc (p := Int.toNat 0) (z := Z) h8
    have rl := rpart_len we
    have hW : wpart (Int.toNat 0) t = t := rfl
    rw [hW] at wd pa
    refine r_kForR (by omega) (by omega) (fun k σ H' => H' = H ∧ (0 < Z → ∀ j, j < k → (t.length - 1 - j) % (Z + 1) = Z → t.getD j 0 = m ∧ j ≠ 0) ∧ ∃ (l : List Nat) (r : Option V), l.length ≤ k ∧ l ++ ug Z (t.drop k) = ug Z t ∧ σ = [some (.str (T t)), some (.int b), some (.int 0), some (.str (T [pt])), some (.int Z), some (.str (T [m])), some (.str (T t)), some (.str (T l)), r]) ⟨rfl, fun _ j hj => by omega, [], none, by simp, by simp, rfl⟩ ?_ ?_
    · rintro k σ H' hk ⟨rfl, hmk, l, r, hll, hlu, rfl⟩
      have tn := ug_turn (z := Z) (t := t) (k := k) (by omega)
      have em : ((t.length : Int) - 1 - (0 + (k : Int))) % ((Z : Int) + 1) = (((t.length - 1 - k) % (Z + 1) : Nat) : Int) := by
        rw [show (t.length : Int) - 1 - (0 + (k : Int)) = ((t.length - 1 - k : Nat) : Int) by omega]
        exact (Int.natCast_emod (t.length - 1 - k) (Z + 1)).symm
      have ek : (0 + (k : Int)).toNat = k := by omega
      have snoc : ∀ {P : Nat → Prop}, (∀ j, j < k → P j) → P k → ∀ j, j < k + 1 → P j := fun {P} a b j hj => by
        rcases Nat.lt_or_ge j k with y | y
        · exact a j y
        · rw [show j = k by omega]; exact b
      have gm : IsB b (Int.toNat 0) pt Z m t → GG Z m t := fun h => by have g := h.2.1; rw [hW] at g; exact g
      walk_at "rd"
      · rename_i d1 d2 d3 d4
        rw [em] at d2
        have k0 : k = 0 := by omega
        exact q2 (fun h => (gm h).marks0 (by omega) (k := k) (by omega) (by omega) k0)
      · rename_i d1 d2 d3 d4
        rw [em] at d2
        rw [ek] at d3
        rw [if_pos ⟨by omega, by omega⟩, List.nil_append] at tn
        exact ⟨rfl, fun hz => snoc (hmk hz) fun _ => ⟨by simpa using d3, by omega⟩, l, _, by omega, by rw [← tn]; exact hlu, rfl⟩
      · rename_i d1 d2 d3
        rw [em] at d2
        rw [ek] at d3
        exact q2 (fun h => d3 (by rw [(gm h).marks (by omega) (by omega) (by omega)]))
      · rename_i d1 d2
        rw [em] at d2
        rw [if_neg (by omega)] at tn
        refine ⟨rfl, fun hz => snoc (hmk hz) fun z => absurd z (by omega), l ++ [t.getD (0 + (k : Int)).toNat 0], _, by rw [List.length_append, List.length_singleton]; omega, ?_, rfl⟩
        rw [ek, List.append_assoc, ← tn]; exact hlu
      · rename_i d1
        rw [if_neg (by omega)] at tn
        refine ⟨rfl, fun hz => absurd hz (by omega), l ++ [t.getD (0 + (k : Int)).toNat 0], _, by rw [List.length_append, List.length_singleton]; omega, ?_, rfl⟩
        rw [ek, List.append_assoc, ← tn]; exact hlu
    · rintro σ H' ⟨rfl, hmk, l, r, hll, hlu, rfl⟩
      rw [Int.toNat_natCast, List.drop_length, show ug Z [] = [] by unfold ug; split; rfl; rw [List.reverse_nil, UJ_nil]; rfl, List.append_nil] at hlu
      rw [Int.toNat_natCast] at hmk hll
      subst hlu
      have fin : 1 ≤ (ug Z t).length → (ug Z t).length ≤ 40 → NZ (ug Z t) → sp_law_worth K ([.str (T (ug Z t ++ (t.drop (t.length : Int).toNat).drop (Int.toNat 1))), .int b] ++ []) H' Q E0 := fun n1 n2 nz => by
        have gg : GG Z m t := GG.by_marks n1 n2 hmk
        have e : (t.drop (t.length : Int).toNat).drop (Int.toNat 1) = rpart (Int.toNat 0) t := by rw [Int.toNat_natCast, List.drop_drop]; exact wd
        rw [e]
        refine ⟨_, b, rfl, pa, h1, h2, fun fb => ?_, fun nf => ?_⟩
        · have q' := q1 ⟨we, by rw [hW]; exact gg, by rw [hW]; exact fb, by rw [hW]; exact nz⟩
          unfold bval at q'
          rw [hW] at q'
          exact q'
        · exact q2 (fun h => nf (by have g := h.2.2.1; rw [hW] at g; exact g))
      have lens : IsB b (Int.toNat 0) pt Z m t → 1 ≤ (ug Z t).length ∧ (ug Z t).length ≤ 40 ∧ NZ (ug Z t) := fun h => by
        have g := h.2.1; have n := h.2.2.2
        rw [hW] at g n
        exact ⟨g.1, g.2.1, n⟩
      walk_at "rd"
      · rename_i d1 d2 d3 d4
        exact q2 (fun h => (lens h).2.2 ⟨by omega, by simpa using d4⟩)
      · rename_i d1 d2 d3 d4
        exact fin (by omega) (by omega) (fun h => d4 (by rw [show Int.toNat 0 = 0 from rfl, h.2]))
      · rename_i d1 d2 d3
        exact fin (by omega) (by omega) (fun h => d3 (by have := h.1; omega))
      · rename_i d1 d2
        exact q2 (fun h => d2 (by have := (lens h).2.1; omega))
      · rename_i d1
        exact q2 (fun h => d1 (by have := (lens h).1; omega))
theorem ok_law_refused {f : Addr} {fd : FuncData} (F : Fun K "_law_refused" "_law_refused" s_law_refused f fd) (B : Blt mg) (C_number_in : HasX P w K mg base "number_in" 4 ["body", "base", "places", "point", "size", "mark"] (sp_number_in K)){c_PadError c_NoFigures c_NoGroups c_NoBody c_NoText : Addr} (m_PadError : mg "PadError" = some (.ref c_PadError)) (m_NoFigures : mg "NoFigures" = some (.ref c_NoFigures)) (m_NoGroups : mg "NoGroups" = some (.ref c_NoGroups)) (m_NoBody : mg "NoBody" = some (.ref c_NoBody)) (m_NoText : mg "NoText" = some (.ref c_NoText)) (e_NoBody : Exc K c_NoBody) (n_NoBody : Nm K "NoBody" c_NoBody) (x1 : PySem.W.exmOne K (.ref c_NoBody) (.ref c_PadError) = some true) (x2 : PySem.W.kitAny K (.ref c_NoBody) [.ref c_NoGroups, .ref c_NoFigures, .ref c_NoText] = some false) (x4 : PySem.W.kitOne K (.ref c_NoBody) (.type "ValueError") = some true) : FnOk P w K mg base CX0 5 f fd ["_law_text", "_law_base", "_law_places", "_law_point", "_law_size", "_law_mark"] (sp_law_refused K) := by
  refine F.ok sc_law_refused (fun vs H Q E h => ?_) (fun cdv A outer s H vs Q E hr h => ?_)
  · obtain ⟨t, b, p, z, pt, m, rfl, h1, h2, h3, h4, h5, h6, h7, h8, h9, q⟩ := h
    rfl
  obtain ⟨t, b, p, z, pt, m, rfl, h1, h2, h3, h4, h5, h6, h7, h8, h9, q⟩ := h
  refine ⟨_, pss_cons (ps_tryX (i := 6) C_number_in (fun _ _ z => z) rfl rfl rfl hr rfl (pa_cons (pv 0) (pa_cons (pv 1) (pa_cons (pv 2) (pa_cons (pv 3) (pa_cons (pv 4) (pa_cons (pv 5) (pa_nil))))))) rfl m_PadError sc_law_refused.nd rfl rfl (fun _ => pss_cons (ps_if (pt_val (pe_callBH (call_isiTK (K := K) rfl) B.z_isinstance rfl bo_isinstance (pa_cons (pv 6) (pa_cons (pe_tup (pa_cons (pe_glob rfl m_NoGroups (v := .ref c_NoGroups) rfl) (pa_cons (pe_glob rfl m_NoFigures (v := .ref c_NoFigures) rfl) (pa_cons (pe_glob rfl m_NoText (v := .ref c_NoText) rfl) (pa_nil))))) (pa_nil))))) (pss_one (ps_ret (pe_bl))) (pss_nil))
    (pss_one (ps_ret (pe_and (pe_callBH (call_isiXK (K := K) rfl) B.z_isinstance rfl bo_isinstance (pa_cons (pv 6) (pa_cons (pe_glob rfl m_NoBody (v := .ref c_NoBody) rfl) (pa_nil)))) (pe_one (pe_callBH (call_isiXK (K := K) rfl) B.z_isinstance rfl bo_isinstance (pa_cons (pv 6) (pa_cons (pe_bltn rfl B.z_ValueError bo_ValueError (v := .ty "ValueError") rfl) (pa_nil))))))))))
    (pss_one (ps_ret (pe_bl))), ?_⟩
  walk_at "st"
  walk_at "rd"
  refine c_refuses h1 h2 h3 h4 h5 h6 h7 h8 h9 fun C Hc hC gC => ?_
  have := Nm.eq hC n_NoBody
  subst this
  refine ⟨C, rfl, e_NoBody, x1, fun x hx => ?_⟩
  have g0 : Same Hc (upd Hc x (.ext (ExAt x C))) := same_new hx _
  have ex0 : upd Hc x (.ext (ExAt x C)) x = some (.ext (ExAt x C)) := upd_same
  generalize upd Hc x (.ext (ExAt x C)) = H0 at g0 ex0 ⊢
  have x3 : PySem.W.kitOne K (.ref C) (.ref C) = some true := by unfold PySem.W.kitOne; rw [if_pos (beq_self_eq_true _)]
  walk_at "rd"
  rename_i p' H1 g1 e1
  refine r_isiT (Ds := [c_NoGroups, c_NoFigures, c_NoText]) (g1.at ex0) e_NoBody e1 x2 ?_
  walk_at "rd"
  refine r_isiX (g1.at ex0) e_NoBody (.inr ⟨_, rfl⟩) x3 ?_
  walk_at "rd"
  refine r_isiX (g1.at ex0) e_NoBody (.inl ⟨_, rfl⟩) x4 ?_
  walk_at "rd"
  exact q _ (by walk_at "sm")
theorem ok_law_power {f : Addr} {fd : FuncData} (F : Fun K "_law_power" "_law_power" s_law_power f fd) (B : Blt mg) : FnOk P w K mg base CX0 1 f fd ["_law_base", "_law_times"] (sp_law_power K) := by
  refine F.ok sc_law_power (fun vs H Q E h => ?_) (fun cdv A outer s H vs Q E hr h => ?_)
  · obtain ⟨b, t, rfl, h1, h2, h3, h4, q⟩ := h
    rfl
  obtain ⟨b, t, rfl, h1, h2, h3, h4, q⟩ := h
  refine ⟨_, pss_cons (ps_set (i := 2) sc_law_power.nd rfl (Or.inl rfl) (pe_int))
    (pss_cons (ps_for PassesOwn.never rfl (pi_range1 rfl B.z_range (pa_cons (pv 1) (pa_nil))) (pg_name (i := 3) sc_law_power.nd rfl (Or.inl rfl)) (pss_one (ps_set (i := 2) sc_law_power.nd rfl (Or.inl rfl) (pe_op op_mulA (pv 2) (pv 0)))))
    (pss_one (ps_ret (pv 2)))), ?_⟩
  walk_at "st"
  walk_at "rd"
  refine r_kForR (by omega) (by omega) (fun i σ H' => H' = H ∧ ∃ r, σ = [some (.int b), some (.int t), some (.int (b ^ i)), r]) ⟨rfl, none, by rw [Int.pow_zero]; rfl⟩ ?_ ?_
  · rintro i σ H' hi ⟨rfl, r, rfl⟩
    walk_at "rd"
    exact ⟨rfl, some (.int (0 + i)), by rw [Int.pow_succ]; rfl⟩
  · rintro σ H' ⟨rfl, r, rfl⟩
    walk_at "rd"
    exact q
theorem ok_law_great {f : Addr} {fd : FuncData} (F : Fun K "_law_great" "_law_great" s_law_great f fd) (B : Blt mg) : FnOk P w K mg base CX0 1 f fd ["_law_cell_here", "_law_at", "_law_limit"] (sp_law_great K) := by
  refine F.ok sc_law_great (fun vs H Q E h => ?_) (fun cdv A outer s H vs Q E hr h => ?_)
  · obtain ⟨c, t, m, rfl, ht, ht', hm, q⟩ := h
    rfl
  obtain ⟨c, t, m, rfl, ht, ht', hm, q⟩ := h
  refine ⟨_, pss_cons (ps_if (PW.pt (pw_and (pt_cmpR op_gt (pv 0) (pe_powK (k := 1000000000000000000) (by unfold CPow; decide) (by decide +kernel)) (nomark _)) (pw_and1 (pt_cmpR op_gt (pe_op op_shrP (pv 0) (pe_op op_add (pe_int) (pe_op op_mulA (pe_int) (pv 1)))) (pe_int) (nomark _))))) (pss_one (ps_ret (pe_op op_modP (pe_op op_shrP (pv 0) (pe_op op_add (pe_int) (pe_op op_mulA (pe_int) (pv 1)))) (pv 2)))) (pss_nil))
    (pss_cons (ps_set (i := 3) sc_law_great.nd rfl (Or.inl rfl) (pe_op op_add (pe_op op_add (pe_op op_modP (pv 0) (pe_powK (k := 10000000000000000000000000000000000000000) (by unfold CPow; decide) (by decide +kernel))) (pe_op op_mulA (pe_int) (pv 1))) (pe_int)))
    (pss_one (ps_ret (pe_op op_modP (pe_op op_mulA (pv 3) (pe_int)) (pv 2))))), ?_⟩
  walk_at "st"
  walk_at "rd"
  all_goals exact q _ (Int.emod_nonneg _ (by omega)) (Int.emod_lt_of_pos _ hm)
theorem ok_law_wide {f : Addr} {fd : FuncData} (F : Fun K "_law_wide" "_law_wide" s_law_wide f fd) (B : Blt mg) (C_law_great : Has P w K mg base "_law_great" 1 ["_law_cell_here", "_law_at", "_law_limit"] (sp_law_great K)) : FnOk P w K mg base CX0 2 f fd ["_law_cell_here", "_law_at", "_law_limit"] (sp_law_wide K) := by
  refine F.ok sc_law_wide (fun vs H Q E h => ?_) (fun cdv A outer s H vs Q E hr h => ?_)
  · obtain ⟨c, t, m, rfl, ht, ht', hm, q⟩ := h
    rfl
  obtain ⟨c, t, m, rfl, ht, ht', hm, q⟩ := h
  refine ⟨_, pss_one (ps_ret (pe_op op_modP (pe_op op_add (pe_op op_mulA (pe_callH C_law_great hr rfl (pa_cons (pv 0) (pa_cons (pv 1) (pa_cons (pe_powK (k := 10000000000000000000000000000000000000000) (by unfold CPow; decide) (by decide +kernel)) (pa_nil))))) (pe_powK (k := 10000000000000000000000000000000000000000) (by unfold CPow; decide) (by decide +kernel))) (pe_callH C_law_great hr rfl (pa_cons (pv 0) (pa_cons (pe_op op_add (pv 1) (pe_int)) (pa_cons (pe_powK (k := 10000000000000000000000000000000000000000) (by unfold CPow; decide) (by decide +kernel)) (pa_nil)))))) (pv 2))), ?_⟩
  walk_at "st"
  walk_at "rd"
  all_goals exact q _ (Int.emod_nonneg _ (by omega)) (Int.emod_lt_of_pos _ hm)
theorem isB_num {b p z : Int} {pt m : Nat} {t : List Nat} (h1 : 2 ≤ b) (h2 : b ≤ 16) (h3 : 0 ≤ p) (h4 : p ≤ 6) (h : IsB b p.toNat pt z.toNat m t) : NumB (bval b p.toNat z.toNat t) b p ∧ bdI (bval b p.toNat z.toNat t) b p pt z m = t := by
  obtain ⟨B, rfl⟩ := Int.eq_ofNat_of_zero_le (show 0 ≤ b by omega)
  obtain ⟨a1, a2, a3⟩ := isB_body (b := B) (by omega) (by omega) (by omega) h
  exact ⟨⟨a1, h1, h2, h3, h4, a2⟩, a3⟩
theorem notB_nil {b : Int} {p pt z m : Nat} : ¬ IsB b p pt z m [] := fun h => by
  have g := h.2.1.1
  have l := ug_len (z := z) (t := wpart p [])
  have w := wpart_len (p := p) (t := [])
  have e : ([] : List Nat).length = 0 := rfl
  omega
theorem pw50 {b : Int} {k : Nat} (h1 : 2 ≤ b) (hk : k ≤ 50) : b ^ k ≤ b ^ 50 := by
  obtain ⟨B, rfl⟩ := Int.eq_ofNat_of_zero_le (show 0 ≤ b by omega)
  have := Nat.pow_le_pow_right (n := B) (by omega) hk
  have e1 : ((B : Int) ^ k) = ((B ^ k : Nat) : Int) := by simp
  have e2 : ((B : Int) ^ 50) = ((B ^ 50 : Nat) : Int) := by simp
  rw [e1, e2]; omega
theorem ok_law_right {f : Addr} {fd : FuncData} (F : Fun K "_law_right" "_law_right" s_law_right f fd) (B : Blt mg) (C_law_draw : Has P w K mg base "_law_draw" 1 ["_law_cell_here", "_law_salt", "_law_many"] (sp_law_draw K)) (C_law_sign : Has P w K mg base "_law_sign" 2 ["_law_cell_here", "_law_salt"] (sp_law_sign K)) (C_law_wide : Has P w K mg base "_law_wide" 2 ["_law_cell_here", "_law_at", "_law_limit"] (sp_law_wide K)) (C_law_body : Has P w K mg base "_law_body" 2 ["_law_number", "_law_base", "_law_places", "_law_point", "_law_size", "_law_mark"] (sp_law_body K)) (C_law_spoilt : Has P w K mg base "_law_spoilt" 3 ["_law_text", "_law_cell_here", "_law_point", "_law_mark"] (sp_law_spoilt K)) (C_law_due : Has P w K mg base "_law_due" 2 ["_law_text", "_law_base", "_law_places", "_law_point", "_law_size", "_law_mark"] (sp_law_due K)) (C_number_in : Has P w K mg base "number_in" 4 ["body", "base", "places", "point", "size", "mark"] (spc (sp_number_in K))) (C_law_power : Has P w K mg base "_law_power" 1 ["_law_base", "_law_times"] (sp_law_power K)) (C_law_refused : Has P w K mg base "_law_refused" 5 ["_law_text", "_law_base", "_law_places", "_law_point", "_law_size", "_law_mark"] (sp_law_refused K)) (C_body_of : Has P w K mg base "body_of" 3 ["number", "base", "places", "point", "size", "mark"] (sp_body_of K)) (C_law_whole : Has P w K mg base "_law_whole" 1 ["_law_found"] (sp_law_whole K)) : FnOk P w K mg base CX0 6 f fd ["_law_cell_here"] (sp_law_right K) := by
  refine F.ok sc_law_right (fun vs H Q E h => ?_) (fun cdv A outer s H vs Q E hr h => ?_)
  · obtain ⟨c, rfl, q⟩ := h
    rfl
  obtain ⟨c, rfl, q⟩ := h
  refine ⟨_, pss_cons (ps_set (i := 1) sc_law_right.nd rfl (Or.inl rfl) (pe_op op_add (pe_int) (pe_callH C_law_draw hr rfl (pa_cons (pv 0) (pa_cons (pe_int) (pa_cons (pe_int) (pa_nil)))))))
    (pss_cons (ps_set (i := 2) sc_law_right.nd rfl (Or.inl rfl) (pe_callH C_law_draw hr rfl (pa_cons (pv 0) (pa_cons (pe_int) (pa_cons (pe_int) (pa_nil))))))
    (pss_cons (ps_set (i := 3) sc_law_right.nd rfl (Or.inl rfl) (pe_callH C_law_draw hr rfl (pa_cons (pv 0) (pa_cons (pe_int) (pa_cons (pe_int) (pa_nil))))))
    (pss_cons (ps_set (i := 4) sc_law_right.nd rfl (Or.inl rfl) (pe_callH C_law_sign hr rfl (pa_cons (pv 0) (pa_cons (pe_int) (pa_nil)))))
    (pss_cons (ps_set (i := 5) sc_law_right.nd rfl (Or.inl rfl) (pe_ix ix_list (pe_lst (pa_cons (pv 4) (pa_cons (pe_callH C_law_sign hr rfl (pa_cons (pv 0) (pa_cons (pe_int) (pa_nil)))) (pa_nil)))) (pe_callTy call_int1N rfl B.z_int bo_int (pa_cons (pe_cmpR op_gt (pe_callH C_law_draw hr rfl (pa_cons (pv 0) (pa_cons (pe_int) (pa_cons (pe_int) (pa_nil))))) (pe_int) (nomark _)) (pa_nil))) (fun _ _ => rfl)))
    (pss_cons (ps_set (i := 6) sc_law_right.nd rfl (Or.inl rfl) (pe_ix ix_list (pe_lst (pa_cons (pe_op op_add (pe_int) (pe_callH C_law_draw hr rfl (pa_cons (pv 0) (pa_cons (pe_int) (pa_cons (pe_int) (pa_nil)))))) (pa_cons (pe_op op_add (pe_int) (pe_callH C_law_draw hr rfl (pa_cons (pv 0) (pa_cons (pe_int) (pa_cons (pe_int) (pa_nil)))))) (pa_nil)))) (pe_callH C_law_draw hr rfl (pa_cons (pv 0) (pa_cons (pe_int) (pa_cons (pe_int) (pa_nil))))) (fun _ _ => rfl)))
    (pss_cons (ps_set (i := 7) sc_law_right.nd rfl (Or.inl rfl) (pe_callH C_law_wide hr rfl (pa_cons (pv 0) (pa_cons (pe_int) (pa_cons (pe_callH C_law_power hr rfl (pa_cons (pv 1) (pa_cons (pe_op op_add (pv 6) (pv 2)) (pa_nil)))) (pa_nil))))))
    (pss_cons (ps_set (i := 8) sc_law_right.nd rfl (Or.inl rfl) (pe_callH C_law_body hr rfl (pa_cons (pv 7) (pa_cons (pv 1) (pa_cons (pv 2) (pa_cons (pv 4) (pa_cons (pv 3) (pa_cons (pv 5) (pa_nil)))))))))
    (pss_cons (ps_set (i := 8) sc_law_right.nd rfl (Or.inl rfl) (pe_callH C_law_spoilt hr rfl (pa_cons (pv 8) (pa_cons (pv 0) (pa_cons (pv 4) (pa_cons (pv 5) (pa_nil)))))))
    (pss_cons (ps_set (i := 9) sc_law_right.nd rfl (Or.inl rfl) (pe_callH C_law_due hr rfl (pa_cons (pv 8) (pa_cons (pv 1) (pa_cons (pv 2) (pa_cons (pv 4) (pa_cons (pv 3) (pa_cons (pv 5) (pa_nil)))))))))
    (pss_cons (ps_if (pt_not (pt_val (pe_callH C_law_refused hr rfl (pa_cons (pe_strT (l := []) (by decide +kernel)) (pa_cons (pv 1) (pa_cons (pv 2) (pa_cons (pv 4) (pa_cons (pv 3) (pa_cons (pv 5) (pa_nil)))))))))) (pss_one (ps_ret (pe_bl))) (pss_nil))
    (pss_cons (ps_if (pt_cmpR op_isN2 (pv 9) (pe_non) (nomark _)) (pss_one (ps_ret (pe_callH C_law_refused hr rfl (pa_cons (pv 8) (pa_cons (pv 1) (pa_cons (pv 2) (pa_cons (pv 4) (pa_cons (pv 3) (pa_cons (pv 5) (pa_nil)))))))))) (pss_nil))
    (pss_cons (ps_set (i := 10) sc_law_right.nd rfl (Or.inl rfl) (pe_callH C_number_in hr rfl (pa_cons (pv 8) (pa_cons (pv 1) (pa_cons (pv 2) (pa_cons (pv 4) (pa_cons (pv 3) (pa_cons (pv 5) (pa_nil)))))))))
    (pss_cons (ps_if (PW.pt (pw_or (pt_not (pt_val (pe_callH C_law_whole hr rfl (pa_cons (pv 10) (pa_nil))))) (pw_or1 (pt_cmpR op_ne (pv 10) (pv 9) (nomark _))))) (pss_one (ps_ret (pe_bl))) (pss_nil))
    (pss_one (ps_ret (pe_cmpR op_eq (pe_callH C_body_of hr rfl (pa_cons (pv 10) (pa_cons (pv 1) (pa_cons (pv 2) (pa_cons (pv 4) (pa_cons (pv 3) (pa_cons (pv 5) (pa_nil)))))))) (pv 8) (nomark _))))))))))))))))), ?_⟩
  walk_at "st"
  walk_at "rd"
  all_goals try (exfalso; omega)
  all_goals
    rename_i v6 h06 h16 v5 h05 h15 v4 h04 h14 c1 hc1 c0 hc0 p1 H1 g1 e1 v3 h03 h13 hcc hi1 v2 h02 h12 v1 h01 h11 p2 H2 g2 e2 v0 h00 h10 hi0
    have y1 := pwN (b := 2 + v6) (by omega) (1 + v2 + v5).toNat
    have y2 := pwN (b := 2 + v6) (by omega) (36 + v1 + v5).toNat
    have z1 := pw50 (b := 2 + v6) (k := (1 + v2 + v5).toNat) (by omega) (by omega)
    have z2 := pw50 (b := 2 + v6) (k := (36 + v1 + v5).toNat) (by omega) (by omega)
    have bb1 : 2 ≤ 2 + v6 := by omega
    have bb2 : 2 + v6 ≤ 16 := by omega
    have vv6 : v5 ≤ 6 := by omega
    have vv9 : v4 ≤ 9 := by omega
    refine c_wide (by omega) (by omega) (by omega) fun n n0 n1 => ?_
    walk_at "rd"
    refine c_body n0 bb1 bb2 (by omega) h05 vv6 h04 vv9 (by assumption) (by assumption) fun l al hl => ?_
    walk_at "rd"
    refine c_spoilt al hl (by assumption) (by assumption) fun t H3 g3 at' ht => ?_
    walk_at "rd"
    refine ⟨t, 2 + v6, v5, v4, _, _, rfl, bb1, bb2, h05, vv6, h04, vv9, by omega, at', fun isb => ?_, fun nb => ?_⟩
    · obtain ⟨nB, eb⟩ := isB_num bb1 bb2 h05 vv6 isb
      walk_at "rd"
      refine c_law_refused bb1 bb2 h05 vv6 h04 vv9 (by decide) Asc.nil notB_nil fun H4 g4 => ?_
      walk_at "rd"
      refine c_number_in bb1 bb2 h05 vv6 h04 vv9 (by omega) at' isb fun H5 g5 => ?_
      walk_at "rd"
      rw [decide_eq_true eb]
      exact q _ (by walk_at "sm")
    · walk_at "rd"
      refine c_law_refused bb1 bb2 h05 vv6 h04 vv9 (by decide) Asc.nil notB_nil fun H4 g4 => ?_
      walk_at "rd"
      refine c_law_refused bb1 bb2 h05 vv6 h04 vv9 (by omega) at' nb fun H5 g5 => ?_
      exact q _ (by walk_at "sm")
theorem ok_law {f : Addr} {fd : FuncData} (F : Fun K "law" "law" s_law f fd) (B : Blt mg) (C_law_refused : Has P w K mg base "_law_refused" 5 ["_law_text", "_law_base", "_law_places", "_law_point", "_law_size", "_law_mark"] (sp_law_refused K)) (C_law_cell : Has P w K mg base "_law_cell" 1 ["_law_script", "_law_k"] (sp_law_cell K)) (C_law_right : Has P w K mg base "_law_right" 6 ["_law_cell_here"] (sp_law_right K)) : FnOk P w K mg base CX0 7 f fd ["_law_script"] (sp_law K) := by
  refine F.ok sc_law (fun vs H Q E h => ?_) (fun cdv A outer s H vs Q E hr h => ?_)
  · obtain ⟨a, ns, rfl, hS, h63, k⟩ := h
    rfl
  obtain ⟨a, ns, rfl, hS, h63, k⟩ := h
  refine ⟨_, pss_cons (ps_for PassesOwn.never rfl (pi_list (pe_op op_cat (pe_lst (pa_cons (pe_callH C_law_cell hr rfl (pa_cons (pv 0) (pa_cons (pe_int) (pa_nil)))) (pa_nil))) (pe_slice sl_list (pv 0) (po_some (pe_int)) (po_some (pe_int))))) (pg_name (i := 1) sc_law.nd rfl (Or.inl rfl)) (pss_one (ps_if (pt_not (pt_val (pe_callH C_law_right hr rfl (pa_cons (pv 1) (pa_nil))))) (pss_one (ps_ret (pe_bl))) (pss_nil))))
    (pss_one (ps_ret (pe_and (pe_callH C_law_refused hr rfl (pa_cons (pe_strT (l := [48, 46, 48, 120, 49]) (by decide +kernel)) (pa_cons (pe_int) (pa_cons (pe_int) (pa_cons (pe_strT (l := [46]) (by decide +kernel)) (pa_cons (pe_int) (pa_cons (pe_strT (l := [44]) (by decide +kernel)) (pa_nil)))))))) (pe_one (pe_callH C_law_refused hr rfl (pa_cons (pe_strT (l := [48, 98, 49, 46, 48]) (by decide +kernel)) (pa_cons (pe_int) (pa_cons (pe_int) (pa_cons (pe_strT (l := [46]) (by decide +kernel)) (pa_cons (pe_int) (pa_cons (pe_strT (l := [44]) (by decide +kernel)) (pa_nil)))))))))))), ?_⟩
  walk_at "st"
  walk_at "rd"
  rename_i v2 p0 H0 g0 e0
  refine r_slCat (Same.seq g0 hS) h63 e0 ?_
  intro zs p2 H2 g2 e2 z0 z64
  refine r_kForL (SqL.of e2) (fun i σ H' => Same H2 H' ∧ ∃ r, σ = [some (.ref a), r]) ⟨Same.refl _, none, rfl⟩ (fun i σ H' _ z => SqL.of (z.1.at e2)) ?_ ?_
  · rintro i x σ H6 hi ⟨gg, r, rfl⟩
    obtain ⟨n, rfl⟩ := int_at hi
    walk_at "rd"
    exact ⟨by walk_at "sm", _, rfl⟩
  · rintro σ H6 ⟨gg, r, rfl⟩
    walk_at "rd"
    refine c_law_refused (by decide) (by decide) (by decide) (by decide) (by decide) (by decide) (by decide) (by unfold Asc; decide) (fun h => ?_) fun H7 g7 => ?_
    · have z := h.2.2.1 120 (by decide)
      exact absurd z.2.1 (by decide)
    walk_at "rd"
    refine c_law_refused (by decide) (by decide) (by decide) (by decide) (by decide) (by decide) (by decide) (by unfold Asc; decide) (fun h => ?_) fun H8 g8 => ?_
    · have z := h.2.2.1 98 (by decide)
      exact absurd z.2.2 (by decide)
    exact k _
end
theorem all_mk {l : PySem.W.OpenLaw} {w : World} {K : PySem.W.Frag} {h : Heap} {mg : Str → Option Value} {fa f0 f1 f2 f3 f4 f5 f6 f7 f8 f9 f10 f11 f12 f13 f14 f15 f16 f17 f18 f19 f20 f21 f22 : Addr} (X : K.In h) (G : h.Ns mainGlobals mg) (hfa : mg "law" = some (.ref fa))
    {od0 an0 od1 an1 od2 an2 od3 an3 od4 an4 od5 an5 od6 an6 od7 an7 od8 an8 od9 an9 od10 an10 od11 an11 od12 an12 od13 an13 od14 an14 od15 an15 od16 an16 od17 an17 od18 an18 od19 an19 od20 an20 od21 an21 od22 an22 : Option Addr} {sl0 sl1 sl2 sl3 sl4 sl5 sl6 sl7 sl8 sl9 sl10 sl11 sl12 sl13 sl14 sl15 sl16 sl17 sl18 sl19 sl20 sl21 sl22 : Array (Option Value)} {oc0 kV0 dc0 pm0 cd0 ct0 oc1 kV1 dc1 pm1 cd1 ct1 oc2 kV2 dc2 pm2 cd2 ct2 oc3 kV3 dc3 pm3 cd3 ct3 oc4 kV4 dc4 pm4 cd4 ct4 oc5 kV5 dc5 pm5 cd5 ct5 oc6 kV6 dc6 pm6 cd6 ct6 oc7 kV7 dc7 pm7 cd7 ct7 oc8 kV8 dc8 pm8 cd8 ct8 oc9 kV9 dc9 pm9 cd9 ct9 oc10 kV10 dc10 pm10 cd10 ct10 oc11 kV11 dc11 pm11 cd11 ct11 oc12 kV12 dc12 pm12 cd12 ct12 oc13 kV13 dc13 pm13 cd13 ct13 oc14 kV14 dc14 pm14 cd14 ct14 oc15 kV15 dc15 pm15 cd15 ct15 oc16 kV16 dc16 pm16 cd16 ct16 oc17 kV17 dc17 pm17 cd17 ct17 oc18 kV18 dc18 pm18 cd18 ct18 oc19 kV19 dc19 pm19 cd19 ct19 oc20 kV20 dc20 pm20 cd20 ct20 oc21 kV21 dc21 pm21 cd21 ct21 oc22 kV22 dc22 pm22 cd22 ct22 : Value} {c_PadError c_NoFigures c_NoGroups c_NoBody c_NoText : Addr} {t_FIGURES : Tok} {t_MOST_SIGNS : Tok} {t_MOST_FIGURES : Tok}
    (a0 : PySem.W.nsIn K mainGlobals "figures_of" = some (some (.ref f0))) (l0 : K.lookup f0 = some ⟨oc0, od0, .func (PySem.W.fnOf "figures_of" "figures_of" (defArgs s_figures_of) (defBody s_figures_of) (defScope s_figures_of) .none kV0 dc0 pm0 an0 cd0 ct0), sl0⟩) (c0 : PySem.W.codeIn K cd0 "figures_of" = true) (k0 : PySem.W.keepIn K (.ref f0) = true)
    (a1 : PySem.W.nsIn K mainGlobals "parts_of" = some (some (.ref f1))) (l1 : K.lookup f1 = some ⟨oc1, od1, .func (PySem.W.fnOf "parts_of" "parts_of" (defArgs s_parts_of) (defBody s_parts_of) (defScope s_parts_of) .none kV1 dc1 pm1 an1 cd1 ct1), sl1⟩) (c1 : PySem.W.codeIn K cd1 "parts_of" = true) (k1 : PySem.W.keepIn K (.ref f1) = true)
    (a2 : PySem.W.nsIn K mainGlobals "grouped" = some (some (.ref f2))) (l2 : K.lookup f2 = some ⟨oc2, od2, .func (PySem.W.fnOf "grouped" "grouped" (defArgs s_grouped) (defBody s_grouped) (defScope s_grouped) .none kV2 dc2 pm2 an2 cd2 ct2), sl2⟩) (c2 : PySem.W.codeIn K cd2 "grouped" = true) (k2 : PySem.W.keepIn K (.ref f2) = true)
    (a3 : PySem.W.nsIn K mainGlobals "body_of" = some (some (.ref f3))) (l3 : K.lookup f3 = some ⟨oc3, od3, .func (PySem.W.fnOf "body_of" "body_of" (defArgs s_body_of) (defBody s_body_of) (defScope s_body_of) .none kV3 dc3 pm3 an3 cd3 ct3), sl3⟩) (c3 : PySem.W.codeIn K cd3 "body_of" = true) (k3 : PySem.W.keepIn K (.ref f3) = true)
    (a4 : PySem.W.nsIn K mainGlobals "ungrouped" = some (some (.ref f4))) (l4 : K.lookup f4 = some ⟨oc4, od4, .func (PySem.W.fnOf "ungrouped" "ungrouped" (defArgs s_ungrouped) (defBody s_ungrouped) (defScope s_ungrouped) .none kV4 dc4 pm4 an4 cd4 ct4), sl4⟩) (c4 : PySem.W.codeIn K cd4 "ungrouped" = true) (k4 : PySem.W.keepIn K (.ref f4) = true)
    (a5 : PySem.W.nsIn K mainGlobals "number_of" = some (some (.ref f5))) (l5 : K.lookup f5 = some ⟨oc5, od5, .func (PySem.W.fnOf "number_of" "number_of" (defArgs s_number_of) (defBody s_number_of) (defScope s_number_of) .none kV5 dc5 pm5 an5 cd5 ct5), sl5⟩) (c5 : PySem.W.codeIn K cd5 "number_of" = true) (k5 : PySem.W.keepIn K (.ref f5) = true)
    (a6 : PySem.W.nsIn K mainGlobals "whole_end" = some (some (.ref f6))) (l6 : K.lookup f6 = some ⟨oc6, od6, .func (PySem.W.fnOf "whole_end" "whole_end" (defArgs s_whole_end) (defBody s_whole_end) (defScope s_whole_end) .none kV6 dc6 pm6 an6 cd6 ct6), sl6⟩) (c6 : PySem.W.codeIn K cd6 "whole_end" = true) (k6 : PySem.W.keepIn K (.ref f6) = true)
    (a7 : PySem.W.nsIn K mainGlobals "number_in" = some (some (.ref f7))) (l7 : K.lookup f7 = some ⟨oc7, od7, .func (PySem.W.fnOf "number_in" "number_in" (defArgs s_number_in) (defBody s_number_in) (defScope s_number_in) .none kV7 dc7 pm7 an7 cd7 ct7), sl7⟩) (c7 : PySem.W.codeIn K cd7 "number_in" = true) (k7 : PySem.W.keepIn K (.ref f7) = true)
    (a8 : PySem.W.nsIn K mainGlobals "_law_cell" = some (some (.ref f8))) (l8 : K.lookup f8 = some ⟨oc8, od8, .func (PySem.W.fnOf "_law_cell" "_law_cell" (defArgs s_law_cell) (defBody s_law_cell) (defScope s_law_cell) .none kV8 dc8 pm8 an8 cd8 ct8), sl8⟩) (c8 : PySem.W.codeIn K cd8 "_law_cell" = true) (k8 : PySem.W.keepIn K (.ref f8) = true)
    (a9 : PySem.W.nsIn K mainGlobals "_law_draw" = some (some (.ref f9))) (l9 : K.lookup f9 = some ⟨oc9, od9, .func (PySem.W.fnOf "_law_draw" "_law_draw" (defArgs s_law_draw) (defBody s_law_draw) (defScope s_law_draw) .none kV9 dc9 pm9 an9 cd9 ct9), sl9⟩) (c9 : PySem.W.codeIn K cd9 "_law_draw" = true) (k9 : PySem.W.keepIn K (.ref f9) = true)
    (a10 : PySem.W.nsIn K mainGlobals "_law_whole" = some (some (.ref f10))) (l10 : K.lookup f10 = some ⟨oc10, od10, .func (PySem.W.fnOf "_law_whole" "_law_whole" (defArgs s_law_whole) (defBody s_law_whole) (defScope s_law_whole) .none kV10 dc10 pm10 an10 cd10 ct10), sl10⟩) (c10 : PySem.W.codeIn K cd10 "_law_whole" = true) (k10 : PySem.W.keepIn K (.ref f10) = true)
    (a11 : PySem.W.nsIn K mainGlobals "_law_sign" = some (some (.ref f11))) (l11 : K.lookup f11 = some ⟨oc11, od11, .func (PySem.W.fnOf "_law_sign" "_law_sign" (defArgs s_law_sign) (defBody s_law_sign) (defScope s_law_sign) .none kV11 dc11 pm11 an11 cd11 ct11), sl11⟩) (c11 : PySem.W.codeIn K cd11 "_law_sign" = true) (k11 : PySem.W.keepIn K (.ref f11) = true)
    (a12 : PySem.W.nsIn K mainGlobals "_law_figures" = some (some (.ref f12))) (l12 : K.lookup f12 = some ⟨oc12, od12, .func (PySem.W.fnOf "_law_figures" "_law_figures" (defArgs s_law_figures) (defBody s_law_figures) (defScope s_law_figures) .none kV12 dc12 pm12 an12 cd12 ct12), sl12⟩) (c12 : PySem.W.codeIn K cd12 "_law_figures" = true) (k12 : PySem.W.keepIn K (.ref f12) = true)
    (a13 : PySem.W.nsIn K mainGlobals "_law_body" = some (some (.ref f13))) (l13 : K.lookup f13 = some ⟨oc13, od13, .func (PySem.W.fnOf "_law_body" "_law_body" (defArgs s_law_body) (defBody s_law_body) (defScope s_law_body) .none kV13 dc13 pm13 an13 cd13 ct13), sl13⟩) (c13 : PySem.W.codeIn K cd13 "_law_body" = true) (k13 : PySem.W.keepIn K (.ref f13) = true)
    (a14 : PySem.W.nsIn K mainGlobals "_law_spoilt" = some (some (.ref f14))) (l14 : K.lookup f14 = some ⟨oc14, od14, .func (PySem.W.fnOf "_law_spoilt" "_law_spoilt" (defArgs s_law_spoilt) (defBody s_law_spoilt) (defScope s_law_spoilt) .none kV14 dc14 pm14 an14 cd14 ct14), sl14⟩) (c14 : PySem.W.codeIn K cd14 "_law_spoilt" = true) (k14 : PySem.W.keepIn K (.ref f14) = true)
    (a15 : PySem.W.nsIn K mainGlobals "_law_worth" = some (some (.ref f15))) (l15 : K.lookup f15 = some ⟨oc15, od15, .func (PySem.W.fnOf "_law_worth" "_law_worth" (defArgs s_law_worth) (defBody s_law_worth) (defScope s_law_worth) .none kV15 dc15 pm15 an15 cd15 ct15), sl15⟩) (c15 : PySem.W.codeIn K cd15 "_law_worth" = true) (k15 : PySem.W.keepIn K (.ref f15) = true)
    (a16 : PySem.W.nsIn K mainGlobals "_law_due" = some (some (.ref f16))) (l16 : K.lookup f16 = some ⟨oc16, od16, .func (PySem.W.fnOf "_law_due" "_law_due" (defArgs s_law_due) (defBody s_law_due) (defScope s_law_due) .none kV16 dc16 pm16 an16 cd16 ct16), sl16⟩) (c16 : PySem.W.codeIn K cd16 "_law_due" = true) (k16 : PySem.W.keepIn K (.ref f16) = true)
    (a17 : PySem.W.nsIn K mainGlobals "_law_refused" = some (some (.ref f17))) (l17 : K.lookup f17 = some ⟨oc17, od17, .func (PySem.W.fnOf "_law_refused" "_law_refused" (defArgs s_law_refused) (defBody s_law_refused) (defScope s_law_refused) .none kV17 dc17 pm17 an17 cd17 ct17), sl17⟩) (c17 : PySem.W.codeIn K cd17 "_law_refused" = true) (k17 : PySem.W.keepIn K (.ref f17) = true)
    (a18 : PySem.W.nsIn K mainGlobals "_law_power" = some (some (.ref f18))) (l18 : K.lookup f18 = some ⟨oc18, od18, .func (PySem.W.fnOf "_law_power" "_law_power" (defArgs s_law_power) (defBody s_law_power) (defScope s_law_power) .none kV18 dc18 pm18 an18 cd18 ct18), sl18⟩) (c18 : PySem.W.codeIn K cd18 "_law_power" = true) (k18 : PySem.W.keepIn K (.ref f18) = true)
    (a19 : PySem.W.nsIn K mainGlobals "_law_great" = some (some (.ref f19))) (l19 : K.lookup f19 = some ⟨oc19, od19, .func (PySem.W.fnOf "_law_great" "_law_great" (defArgs s_law_great) (defBody s_law_great) (defScope s_law_great) .none kV19 dc19 pm19 an19 cd19 ct19), sl19⟩) (c19 : PySem.W.codeIn K cd19 "_law_great" = true) (k19 : PySem.W.keepIn K (.ref f19) = true)
    (a20 : PySem.W.nsIn K mainGlobals "_law_wide" = some (some (.ref f20))) (l20 : K.lookup f20 = some ⟨oc20, od20, .func (PySem.W.fnOf "_law_wide" "_law_wide" (defArgs s_law_wide) (defBody s_law_wide) (defScope s_law_wide) .none kV20 dc20 pm20 an20 cd20 ct20), sl20⟩) (c20 : PySem.W.codeIn K cd20 "_law_wide" = true) (k20 : PySem.W.keepIn K (.ref f20) = true)
    (a21 : PySem.W.nsIn K mainGlobals "_law_right" = some (some (.ref f21))) (l21 : K.lookup f21 = some ⟨oc21, od21, .func (PySem.W.fnOf "_law_right" "_law_right" (defArgs s_law_right) (defBody s_law_right) (defScope s_law_right) .none kV21 dc21 pm21 an21 cd21 ct21), sl21⟩) (c21 : PySem.W.codeIn K cd21 "_law_right" = true) (k21 : PySem.W.keepIn K (.ref f21) = true)
    (a22 : PySem.W.nsIn K mainGlobals "law" = some (some (.ref f22))) (l22 : K.lookup f22 = some ⟨oc22, od22, .func (PySem.W.fnOf "law" "law" (defArgs s_law) (defBody s_law) (defScope s_law) .none kV22 dc22 pm22 an22 cd22 ct22), sl22⟩) (c22 : PySem.W.codeIn K cd22 "law" = true) (k22 : PySem.W.keepIn K (.ref f22) = true)
    (z_len : PySem.W.nsIn K mainGlobals "len" = some none) (z_max : PySem.W.nsIn K mainGlobals "max" = some none) (z_isinstance : PySem.W.nsIn K mainGlobals "isinstance" = some none) (z_str : PySem.W.nsIn K mainGlobals "str" = some none) (z_bool : PySem.W.nsIn K mainGlobals "bool" = some none) (z_int : PySem.W.nsIn K mainGlobals "int" = some none) (z_range : PySem.W.nsIn K mainGlobals "range" = some none) (z_ValueError : PySem.W.nsIn K mainGlobals "ValueError" = some none) (n_FIGURES : PySem.W.nsIn K mainGlobals "FIGURES" = some (some (.str "0123456789abcdef" t_FIGURES))) (n_MOST_SIGNS : PySem.W.nsIn K mainGlobals "MOST_SIGNS" = some (some (.int 40 t_MOST_SIGNS))) (n_MOST_FIGURES : PySem.W.nsIn K mainGlobals "MOST_FIGURES" = some (some (.int 240 t_MOST_FIGURES))) (n_PadError : PySem.W.nsIn K mainGlobals "PadError" = some (some (.ref c_PadError))) (n_NoFigures : PySem.W.nsIn K mainGlobals "NoFigures" = some (some (.ref c_NoFigures))) (n_NoGroups : PySem.W.nsIn K mainGlobals "NoGroups" = some (some (.ref c_NoGroups))) (n_NoBody : PySem.W.nsIn K mainGlobals "NoBody" = some (some (.ref c_NoBody))) (n_NoText : PySem.W.nsIn K mainGlobals "NoText" = some (some (.ref c_NoText))) (ex_NoFigures : PySem.W.excIn K c_NoFigures VEB "ValueError.__new__" = true) (h1_NoFigures : PySem.W.findIn K (.ref c_NoFigures) "__getattribute__" = some (some (.builtin "BaseException.__getattribute__"))) (h2_NoFigures : PySem.W.findIn K (.ref c_NoFigures) "__getattr__" = some none) (hb_NoFigures : PySem.W.mroIn K c_NoFigures (.type "BaseException") = some true) (hd_NoFigures : PySem.W.hasDictIn K c_NoFigures = true) (ha_NoFigures : PySem.W.findIn K (.ref c_NoFigures) "__class__" = some (some (.builtin "object.__class__"))) (hn_NoFigures : PySem.W.specialIn K (.builtin "object.__class__") "__get__" = some (some (.builtin "getset_descriptor.__get__"))) (ht_NoFigures : PySem.W.takesIn K (.builtin "object.__class__") = some true) (hm_NoFigures : PySem.W.mroIn K c_NoFigures (.type "object") = some true) (ex_NoGroups : PySem.W.excIn K c_NoGroups VEB "ValueError.__new__" = true) (h1_NoGroups : PySem.W.findIn K (.ref c_NoGroups) "__getattribute__" = some (some (.builtin "BaseException.__getattribute__"))) (h2_NoGroups : PySem.W.findIn K (.ref c_NoGroups) "__getattr__" = some none) (hb_NoGroups : PySem.W.mroIn K c_NoGroups (.type "BaseException") = some true) (hd_NoGroups : PySem.W.hasDictIn K c_NoGroups = true) (ha_NoGroups : PySem.W.findIn K (.ref c_NoGroups) "__class__" = some (some (.builtin "object.__class__"))) (hn_NoGroups : PySem.W.specialIn K (.builtin "object.__class__") "__get__" = some (some (.builtin "getset_descriptor.__get__"))) (ht_NoGroups : PySem.W.takesIn K (.builtin "object.__class__") = some true) (hm_NoGroups : PySem.W.mroIn K c_NoGroups (.type "object") = some true) (ex_NoBody : PySem.W.excIn K c_NoBody VEB "ValueError.__new__" = true) (h1_NoBody : PySem.W.findIn K (.ref c_NoBody) "__getattribute__" = some (some (.builtin "BaseException.__getattribute__"))) (h2_NoBody : PySem.W.findIn K (.ref c_NoBody) "__getattr__" = some none) (hb_NoBody : PySem.W.mroIn K c_NoBody (.type "BaseException") = some true) (hd_NoBody : PySem.W.hasDictIn K c_NoBody = true) (ha_NoBody : PySem.W.findIn K (.ref c_NoBody) "__class__" = some (some (.builtin "object.__class__"))) (hn_NoBody : PySem.W.specialIn K (.builtin "object.__class__") "__get__" = some (some (.builtin "getset_descriptor.__get__"))) (ht_NoBody : PySem.W.takesIn K (.builtin "object.__class__") = some true) (hm_NoBody : PySem.W.mroIn K c_NoBody (.type "object") = some true) (x1 : PySem.W.exmOne K (.ref c_NoBody) (.ref c_PadError) = some true) (x2 : PySem.W.kitAny K (.ref c_NoBody) [.ref c_NoGroups, .ref c_NoFigures, .ref c_NoText] = some false) (x4 : PySem.W.kitOne K (.ref c_NoBody) (.type "ValueError") = some true) (xg : PySem.W.exmAny K (.ref c_NoGroups) [.ref c_NoGroups, .ref c_NoFigures] = some true) (xf : PySem.W.exmAny K (.ref c_NoFigures) [.ref c_NoGroups, .ref c_NoFigures] = some true) :
    ∃ fd : FuncData, (∀ (s : Shared) (v : Value), BindsTo s fd ⟨[v], []⟩ [("_law_script", v)]) ∧ ∀ base : Heap, K.In base → base.Ns mainGlobals mg → FnOk l.prog w K mg base CX0 7 fa fd ["_law_script"] (sp_law K) := by
  have e := hfa.symm.trans (PySem.W.mg_of X G a22)
  cases e
  have B : Blt mg := ⟨PySem.W.mg_none_of X G z_len, PySem.W.mg_none_of X G z_max, PySem.W.mg_none_of X G z_isinstance, PySem.W.mg_none_of X G z_str, PySem.W.mg_none_of X G z_bool, PySem.W.mg_none_of X G z_int, PySem.W.mg_none_of X G z_range, PySem.W.mg_none_of X G z_ValueError⟩
  refine ⟨PySem.W.fnOf "law" "law" (defArgs s_law) (defBody s_law) (defScope s_law) .none kV22 dc22 pm22 an22 cd22 ct22, fun s v => .of_eq rfl, fun base _ _ => ?_⟩
  have g_FIGURES := PySem.W.mg_of X G n_FIGURES
  have g_MOST_SIGNS := PySem.W.mg_of X G n_MOST_SIGNS
  have g_MOST_FIGURES := PySem.W.mg_of X G n_MOST_FIGURES
  have m_PadError := PySem.W.mg_of X G n_PadError
  have m_NoFigures := PySem.W.mg_of X G n_NoFigures
  have m_NoGroups := PySem.W.mg_of X G n_NoGroups
  have m_NoBody := PySem.W.mg_of X G n_NoBody
  have m_NoText := PySem.W.mg_of X G n_NoText
  have e_NoFigures : Exc K c_NoFigures := ⟨ex_NoFigures, h1_NoFigures, h2_NoFigures, hb_NoFigures, hd_NoFigures, ha_NoFigures, hn_NoFigures, ht_NoFigures, hm_NoFigures⟩
  have e_NoGroups : Exc K c_NoGroups := ⟨ex_NoGroups, h1_NoGroups, h2_NoGroups, hb_NoGroups, hd_NoGroups, ha_NoGroups, hn_NoGroups, ht_NoGroups, hm_NoGroups⟩
  have e_NoBody : Exc K c_NoBody := ⟨ex_NoBody, h1_NoBody, h2_NoBody, hb_NoBody, hd_NoBody, ha_NoBody, hn_NoBody, ht_NoBody, hm_NoBody⟩
  have F0 := fun_mk (st := s_figures_of) l0 c0 k0
  have H_figures_of : Has l.prog w K mg base "figures_of" 1 ["number", "base"] (sp_figures_of K) := ⟨_, _, ok_figures_of  F0 B  g_FIGURES , PySem.W.mg_of X G a0, k0, F0.binds fun _ _ _ _ _ _ us hl => match us, hl with | [_, _], _ => rfl⟩
  have F1 := fun_mk (st := s_parts_of) l1 c1 k1
  have H_parts_of : Has l.prog w K mg base "parts_of" 1 ["text", "size", "between"] (sp_parts_of K) := ⟨_, _, ok_parts_of  F1 B   , PySem.W.mg_of X G a1, k1, F1.binds fun _ _ _ _ _ _ us hl => match us, hl with | [_, _, _], _ => rfl⟩
  have F2 := fun_mk (st := s_grouped) l2 c2 k2
  have H_grouped : Has l.prog w K mg base "grouped" 2 ["text", "size", "mark"] (sp_grouped K) := ⟨_, _, ok_grouped  F2 B H_parts_of  , PySem.W.mg_of X G a2, k2, F2.binds fun _ _ _ _ _ _ us hl => match us, hl with | [_, _, _], _ => rfl⟩
  have F3 := fun_mk (st := s_body_of) l3 c3 k3
  have H_body_of : Has l.prog w K mg base "body_of" 3 ["number", "base", "places", "point", "size", "mark"] (sp_body_of K) := ⟨_, _, ok_body_of  F3 B H_grouped H_figures_of  , PySem.W.mg_of X G a3, k3, F3.binds fun _ _ _ _ _ _ us hl => match us, hl with | [_, _, _, _, _, _], _ => rfl⟩
  have F4 := fun_mk (st := s_ungrouped) l4 c4 k4
  have G_ungrouped := ok_ungrouped (P := l.prog) (w := w) (base := base)  F4 B H_parts_of H_grouped g_MOST_SIGNS m_NoGroups e_NoGroups n_NoGroups
  have H_ungrouped : HasX2 l.prog w K mg base "ungrouped" 3 ["text", "size", "mark"] (sp_ungrouped K) := ⟨_, _, G_ungrouped, PySem.W.mg_of X G a4, k4, F4.binds fun _ _ _ _ _ _ us hl => match us, hl with | [_, _, _], _ => rfl⟩
  have H_ungrouped0 : Has l.prog w K mg base "ungrouped" 3 ["text", "size", "mark"] (spc (sp_ungrouped K)) := ⟨_, _, G_ungrouped.of2.calm, PySem.W.mg_of X G a4, k4, F4.binds fun _ _ _ _ _ _ us hl => match us, hl with | [_, _, _], _ => rfl⟩
  have F5 := fun_mk (st := s_number_of) l5 c5 k5
  have G_number_of := ok_number_of (P := l.prog) (w := w) (base := base)  F5 B  g_MOST_FIGURES g_FIGURES m_NoFigures e_NoFigures n_NoFigures
  have H_number_of : HasX2 l.prog w K mg base "number_of" 1 ["text", "base"] (sp_number_of K) := ⟨_, _, G_number_of, PySem.W.mg_of X G a5, k5, F5.binds fun _ _ _ _ _ _ us hl => match us, hl with | [_, _], _ => rfl⟩
  have H_number_of0 : Has l.prog w K mg base "number_of" 1 ["text", "base"] (spc (sp_number_of K)) := ⟨_, _, G_number_of.of2.calm, PySem.W.mg_of X G a5, k5, F5.binds fun _ _ _ _ _ _ us hl => match us, hl with | [_, _], _ => rfl⟩
  have F6 := fun_mk (st := s_whole_end) l6 c6 k6
  have G_whole_end := ok_whole_end (P := l.prog) (w := w) (base := base)  F6 B   m_NoBody e_NoBody n_NoBody
  have H_whole_end : HasX l.prog w K mg base "whole_end" 1 ["body", "places", "point"] (sp_whole_end K) := ⟨_, _, G_whole_end, PySem.W.mg_of X G a6, k6, F6.binds fun _ _ _ _ _ _ us hl => match us, hl with | [_, _, _], _ => rfl⟩
  have H_whole_end0 : Has l.prog w K mg base "whole_end" 1 ["body", "places", "point"] (spc (sp_whole_end K)) := ⟨_, _, G_whole_end.calm, PySem.W.mg_of X G a6, k6, F6.binds fun _ _ _ _ _ _ us hl => match us, hl with | [_, _, _], _ => rfl⟩
  have F7 := fun_mk (st := s_number_in) l7 c7 k7
  have G_number_in := ok_number_in (P := l.prog) (w := w) (base := base)  F7 B H_whole_end H_ungrouped H_number_of  m_NoGroups m_NoFigures m_NoBody e_NoBody n_NoGroups n_NoFigures n_NoBody xg xf
  have H_number_in : HasX l.prog w K mg base "number_in" 4 ["body", "base", "places", "point", "size", "mark"] (sp_number_in K) := ⟨_, _, G_number_in, PySem.W.mg_of X G a7, k7, F7.binds fun _ _ _ _ _ _ us hl => match us, hl with | [_, _, _, _, _, _], _ => rfl⟩
  have H_number_in0 : Has l.prog w K mg base "number_in" 4 ["body", "base", "places", "point", "size", "mark"] (spc (sp_number_in K)) := ⟨_, _, G_number_in.calm, PySem.W.mg_of X G a7, k7, F7.binds fun _ _ _ _ _ _ us hl => match us, hl with | [_, _, _, _, _, _], _ => rfl⟩
  have F8 := fun_mk (st := s_law_cell) l8 c8 k8
  have H_law_cell : Has l.prog w K mg base "_law_cell" 1 ["_law_script", "_law_k"] (sp_law_cell K) := ⟨_, _, ok_law_cell  F8 B   , PySem.W.mg_of X G a8, k8, F8.binds fun _ _ _ _ _ _ us hl => match us, hl with | [_, _], _ => rfl⟩
  have F9 := fun_mk (st := s_law_draw) l9 c9 k9
  have H_law_draw : Has l.prog w K mg base "_law_draw" 1 ["_law_cell_here", "_law_salt", "_law_many"] (sp_law_draw K) := ⟨_, _, ok_law_draw  F9 B   , PySem.W.mg_of X G a9, k9, F9.binds fun _ _ _ _ _ _ us hl => match us, hl with | [_, _, _], _ => rfl⟩
  have F10 := fun_mk (st := s_law_whole) l10 c10 k10
  have H_law_whole : Has l.prog w K mg base "_law_whole" 1 ["_law_found"] (sp_law_whole K) := ⟨_, _, ok_law_whole  F10 B   , PySem.W.mg_of X G a10, k10, F10.binds fun _ _ _ _ _ _ us hl => match us, hl with | [_], _ => rfl⟩
  have F11 := fun_mk (st := s_law_sign) l11 c11 k11
  have H_law_sign : Has l.prog w K mg base "_law_sign" 2 ["_law_cell_here", "_law_salt"] (sp_law_sign K) := ⟨_, _, ok_law_sign  F11 B H_law_draw  , PySem.W.mg_of X G a11, k11, F11.binds fun _ _ _ _ _ _ us hl => match us, hl with | [_, _], _ => rfl⟩
  have F12 := fun_mk (st := s_law_figures) l12 c12 k12
  have H_law_figures : Has l.prog w K mg base "_law_figures" 1 ["_law_number", "_law_base", "_law_least"] (sp_law_figures K) := ⟨_, _, ok_law_figures  F12 B   , PySem.W.mg_of X G a12, k12, F12.binds fun _ _ _ _ _ _ us hl => match us, hl with | [_, _, _], _ => rfl⟩
  have F13 := fun_mk (st := s_law_body) l13 c13 k13
  have H_law_body : Has l.prog w K mg base "_law_body" 2 ["_law_number", "_law_base", "_law_places", "_law_point", "_law_size", "_law_mark"] (sp_law_body K) := ⟨_, _, ok_law_body  F13 B H_law_figures  , PySem.W.mg_of X G a13, k13, F13.binds fun _ _ _ _ _ _ us hl => match us, hl with | [_, _, _, _, _, _], _ => rfl⟩
  have F14 := fun_mk (st := s_law_spoilt) l14 c14 k14
  have H_law_spoilt : Has l.prog w K mg base "_law_spoilt" 3 ["_law_text", "_law_cell_here", "_law_point", "_law_mark"] (sp_law_spoilt K) := ⟨_, _, ok_law_spoilt  F14 B H_law_draw H_law_sign  , PySem.W.mg_of X G a14, k14, F14.binds fun _ _ _ _ _ _ us hl => match us, hl with | [_, _, _, _], _ => rfl⟩
  have F15 := fun_mk (st := s_law_worth) l15 c15 k15
  have H_law_worth : Has l.prog w K mg base "_law_worth" 1 ["_law_text", "_law_base"] (sp_law_worth K) := ⟨_, _, ok_law_worth  F15 B   , PySem.W.mg_of X G a15, k15, F15.binds fun _ _ _ _ _ _ us hl => match us, hl with | [_, _], _ => rfl⟩
  have F16 := fun_mk (st := s_law_due) l16 c16 k16
  have H_law_due : Has l.prog w K mg base "_law_due" 2 ["_law_text", "_law_base", "_law_places", "_law_point", "_law_size", "_law_mark"] (sp_law_due K) := ⟨_, _, ok_law_due  F16 B H_law_worth  , PySem.W.mg_of X G a16, k16, F16.binds fun _ _ _ _ _ _ us hl => match us, hl with | [_, _, _, _, _, _], _ => rfl⟩
  have F17 := fun_mk (st := s_law_refused) l17 c17 k17
  have H_law_refused : Has l.prog w K mg base "_law_refused" 5 ["_law_text", "_law_base", "_law_places", "_law_point", "_law_size", "_law_mark"] (sp_law_refused K) := ⟨_, _, ok_law_refused  F17 B H_number_in  m_PadError m_NoFigures m_NoGroups m_NoBody m_NoText e_NoBody n_NoBody x1 x2 x4, PySem.W.mg_of X G a17, k17, F17.binds fun _ _ _ _ _ _ us hl => match us, hl with | [_, _, _, _, _, _], _ => rfl⟩
  have F18 := fun_mk (st := s_law_power) l18 c18 k18
  have H_law_power : Has l.prog w K mg base "_law_power" 1 ["_law_base", "_law_times"] (sp_law_power K) := ⟨_, _, ok_law_power  F18 B   , PySem.W.mg_of X G a18, k18, F18.binds fun _ _ _ _ _ _ us hl => match us, hl with | [_, _], _ => rfl⟩
  have F19 := fun_mk (st := s_law_great) l19 c19 k19
  have H_law_great : Has l.prog w K mg base "_law_great" 1 ["_law_cell_here", "_law_at", "_law_limit"] (sp_law_great K) := ⟨_, _, ok_law_great  F19 B   , PySem.W.mg_of X G a19, k19, F19.binds fun _ _ _ _ _ _ us hl => match us, hl with | [_, _, _], _ => rfl⟩
  have F20 := fun_mk (st := s_law_wide) l20 c20 k20
  have H_law_wide : Has l.prog w K mg base "_law_wide" 2 ["_law_cell_here", "_law_at", "_law_limit"] (sp_law_wide K) := ⟨_, _, ok_law_wide  F20 B H_law_great  , PySem.W.mg_of X G a20, k20, F20.binds fun _ _ _ _ _ _ us hl => match us, hl with | [_, _, _], _ => rfl⟩
  have F21 := fun_mk (st := s_law_right) l21 c21 k21
  have H_law_right : Has l.prog w K mg base "_law_right" 6 ["_law_cell_here"] (sp_law_right K) := ⟨_, _, ok_law_right  F21 B H_law_draw H_law_sign H_law_wide H_law_body H_law_spoilt H_law_due H_number_in0 H_law_power H_law_refused H_body_of H_law_whole  , PySem.W.mg_of X G a21, k21, F21.binds fun _ _ _ _ _ _ us hl => match us, hl with | [_], _ => rfl⟩
  have F22 := fun_mk (st := s_law) l22 c22 k22
  exact ok_law  F22 B H_law_refused H_law_cell H_law_right
theorem walk {l : PySem.W.OpenLaw} {q : Program} {loose : List Str} {XP : (Str → Option Value) → Heap → Prop} {YP : World → Heap → Prop} {d : DefRec} {K : Params → PySem.W.Frag} (hn : l.most = some 63) (hdf : d.params.defaults = [])
    (hY : ∀ (w : World) (h : Heap), YP w h → (K w.params).In h)
    (F : ∀ (w : World) (mg : Str → Option Value) (fa : Addr) (h : Heap), (K w.params).In h → h.Ns mainGlobals mg → mg d.name = some (.ref fa) →
      ∃ fd : FuncData, (∀ (s : Shared) (u : Value), BindsTo s fd ⟨[u], []⟩ [("_law_script", u)]) ∧ ∀ base : Heap, (K w.params).In base → base.Ns mainGlobals mg → FnOk l.prog w (K w.params) mg base CX0 7 fa fd ["_law_script"] (sp_law (K w.params))) :
    PySem.W.WalkO q loose XP YP l.row.toRowW d [] (fun f vs => PySem.call f vs) :=
  L2.walk_of (n := 63) (k := 7) (x := "_law_script") (CX := fun _ => CX0) (sp := fun w => sp_law (K w.params)) hn (by decide) hdf ⟨rfl, by decide, by decide⟩ hY F (fun _ _ a ns hl _ hS => ⟨a, ns, rfl, hS, hl, fun _ => rfl⟩) fun _ _ _ _ _ z => z
end Pw
open PySem PySem.W PyProof.Rows
set_option maxRecDepth 100000 in
set_option maxHeartbeats 0 in
theorem PySem.Challenge.cw_padwright_k24_no_bodies_holds : PySem.Challenge.rw_padwright_k24_no_bodies.Holds := by
  w_on; o_law; k_head; (case hw => w_witness2)
  k_fill
  refine Pw.walk (l := PySem.Challenge.rw_padwright_k24_no_bodies) rfl rfl (fun w h Y => PySem.W.kIn_of Y) ?F
  case F =>
    intro w mg fa h KX G hmg
    refine' Pw.all_mk KX G hmg ?a0 ?l0 ?c0 ?k0 ?a1 ?l1 ?c1 ?k1 ?a2 ?l2 ?c2 ?k2 ?a3 ?l3 ?c3 ?k3 ?a4 ?l4 ?c4 ?k4 ?a5 ?l5 ?c5 ?k5 ?a6 ?l6 ?c6 ?k6 ?a7 ?l7 ?c7 ?k7 ?a8 ?l8 ?c8 ?k8 ?a9 ?l9 ?c9 ?k9 ?a10 ?l10 ?c10 ?k10 ?a11 ?l11 ?c11 ?k11 ?a12 ?l12 ?c12 ?k12 ?a13 ?l13 ?c13 ?k13 ?a14 ?l14 ?c14 ?k14 ?a15 ?l15 ?c15 ?k15 ?a16 ?l16 ?c16 ?k16 ?a17 ?l17 ?c17 ?k17 ?a18 ?l18 ?c18 ?k18 ?a19 ?l19 ?c19 ?k19 ?a20 ?l20 ?c20 ?k20 ?a21 ?l21 ?c21 ?k21 ?a22 ?l22 ?c22 ?k22 ?z_len ?z_max ?z_isinstance ?z_str ?z_bool ?z_int ?z_range ?z_ValueError ?n_FIGURES ?n_MOST_SIGNS ?n_MOST_FIGURES ?n_PadError ?n_NoFigures ?n_NoGroups ?n_NoBody ?n_NoText ?ex_NoFigures ?h1_NoFigures ?h2_NoFigures ?hb_NoFigures ?hd_NoFigures ?ha_NoFigures ?hn_NoFigures ?ht_NoFigures ?hm_NoFigures ?ex_NoGroups ?h1_NoGroups ?h2_NoGroups ?hb_NoGroups ?hd_NoGroups ?ha_NoGroups ?hn_NoGroups ?ht_NoGroups ?hm_NoGroups ?ex_NoBody ?h1_NoBody ?h2_NoBody ?hb_NoBody ?hd_NoBody ?ha_NoBody ?hn_NoBody ?ht_NoBody ?hm_NoBody ?x1 ?x2 ?x4 ?xg ?xf
    (case n_PadError => k_is)
    (case n_NoFigures => k_is)
    (case n_NoGroups => k_is)
    (case n_NoBody => k_is)
    (case n_NoText => k_is)
    (case a0 => k_is); (case l0 => k_is); (case c0 => k_is); (case k0 => k_is)
    (case a1 => k_is); (case l1 => k_is); (case c1 => k_is); (case k1 => k_is)
    (case a2 => k_is); (case l2 => k_is); (case c2 => k_is); (case k2 => k_is)
    (case a3 => k_is); (case l3 => k_is); (case c3 => k_is); (case k3 => k_is)
    (case a4 => k_is); (case l4 => k_is); (case c4 => k_is); (case k4 => k_is)
    (case a5 => k_is); (case l5 => k_is); (case c5 => k_is); (case k5 => k_is)
    (case a6 => k_is); (case l6 => k_is); (case c6 => k_is); (case k6 => k_is)
    (case a7 => k_is); (case l7 => k_is); (case c7 => k_is); (case k7 => k_is)
    (case a8 => k_is); (case l8 => k_is); (case c8 => k_is); (case k8 => k_is)
    (case a9 => k_is); (case l9 => k_is); (case c9 => k_is); (case k9 => k_is)
    (case a10 => k_is); (case l10 => k_is); (case c10 => k_is); (case k10 => k_is)
    (case a11 => k_is); (case l11 => k_is); (case c11 => k_is); (case k11 => k_is)
    (case a12 => k_is); (case l12 => k_is); (case c12 => k_is); (case k12 => k_is)
    (case a13 => k_is); (case l13 => k_is); (case c13 => k_is); (case k13 => k_is)
    (case a14 => k_is); (case l14 => k_is); (case c14 => k_is); (case k14 => k_is)
    (case a15 => k_is); (case l15 => k_is); (case c15 => k_is); (case k15 => k_is)
    (case a16 => k_is); (case l16 => k_is); (case c16 => k_is); (case k16 => k_is)
    (case a17 => k_is); (case l17 => k_is); (case c17 => k_is); (case k17 => k_is)
    (case a18 => k_is); (case l18 => k_is); (case c18 => k_is); (case k18 => k_is)
    (case a19 => k_is); (case l19 => k_is); (case c19 => k_is); (case k19 => k_is)
    (case a20 => k_is); (case l20 => k_is); (case c20 => k_is); (case k20 => k_is)
    (case a21 => k_is); (case l21 => k_is); (case c21 => k_is); (case k21 => k_is)
    (case a22 => k_is); (case l22 => k_is); (case c22 => k_is); (case k22 => k_is)
    (case z_len => k_is)
    (case z_max => k_is)
    (case z_isinstance => k_is)
    (case z_str => k_is)
    (case z_bool => k_is)
    (case z_int => k_is)
    (case z_range => k_is)
    (case z_ValueError => k_is)
    (case n_FIGURES => k_is)
    (case n_MOST_SIGNS => k_is)
    (case n_MOST_FIGURES => k_is)
    (case ex_NoFigures => k_exc)
    (case h1_NoFigures => k_is)
    (case h2_NoFigures => k_is)
    (case hb_NoFigures => k_is)
    (case hd_NoFigures => k_is)
    (case ha_NoFigures => k_is)
    (case hn_NoFigures => k_is)
    (case ht_NoFigures => k_is)
    (case hm_NoFigures => k_is)
    (case ex_NoGroups => k_exc)
    (case h1_NoGroups => k_is)
    (case h2_NoGroups => k_is)
    (case hb_NoGroups => k_is)
    (case hd_NoGroups => k_is)
    (case ha_NoGroups => k_is)
    (case hn_NoGroups => k_is)
    (case ht_NoGroups => k_is)
    (case hm_NoGroups => k_is)
    (case ex_NoBody => k_exc)
    (case h1_NoBody => k_is)
    (case h2_NoBody => k_is)
    (case hb_NoBody => k_is)
    (case hd_NoBody => k_is)
    (case ha_NoBody => k_is)
    (case hn_NoBody => k_is)
    (case ht_NoBody => k_is)
    (case hm_NoBody => k_is)
    (case x1 => kts_exm)
    (case x2 => kit_is)
    (case x4 => kit_is)
    (case xg => kts_exm)
    (case xf => kts_exm)

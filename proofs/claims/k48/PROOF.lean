import PyProof.Rows.All
import KE.KDictList
import KE.KFromBytes
import KE.KItem
import KE.KNestM
import KE.KTryMore
import KE.RegKIsAll
import KE.RegKTryMore
import Wide.FinOn
import PySem.Challenge.RW_padwright_k48_widened_and_fields
set_option Elab.async false
set_option linter.all false
set_option maxRecDepth 100000
namespace L2
open PySem PySem.Spec PyProof.Rows
abbrev Key:=Sum Int Str
def zWU:Key→Value→Bool
 | .inl k,v=>Value.isInt k v
 | .inr x,v=>Value.isStrOf x v
def keyH (w:World):Key→Int
 | .inl k=>hashInt k
 | .inr x=>hashStr w x
theorem zB5 : ∀ {k : Key} {v : Value}, zWU k v = true → (∃ i t, k = Sum.inl i ∧ v = Value.int i t) ∨ (∃ x t, k = Sum.inr x ∧ v = Value.str x t)
  | .inl i, v, h => by
    obtain ⟨t, e⟩ := Value.isInt_shape (k := i) (v := v) h
    exact .inl ⟨i, t, rfl, e⟩
  | .inr x, v, h => by
    obtain ⟨t, e⟩ := Value.isStrOf_shape (x := x) (v := v) h
    exact .inr ⟨x, t, rfl, e⟩
theorem zU2 (a b:Int):decide ((Sum.inl a:Key)=Sum.inl b)=(a == b):=by
 by_cases e:a=b
 ·subst e;simp
 ·have h : ¬ (Sum.inl a:Key)=Sum.inl b:=fun q=>e (Sum.inl.inj q)
  rw [decide_eq_false h]
  exact (beq_eq_false_iff_ne.mpr e).symm
theorem zV4 (a b:Str):decide ((Sum.inr a:Key)=Sum.inr b)=decide (a=b):=by
 by_cases e:a=b
 ·subst e;simp
 ·have h : ¬ (Sum.inr a:Key)=Sum.inr b:=fun q=>e (Sum.inr.inj q)
  rw [decide_eq_false h,decide_eq_false e]
theorem zVy (a:Int) (b:Str):decide ((Sum.inl a:Key)=Sum.inr b)=false:=decide_eq_false (fun q=>nomatch q)
theorem zWB (a:Str) (b:Int):decide ((Sum.inr a:Key)=Sum.inl b)=false:=decide_eq_false (fun q=>nomatch q)
def zPh (prog:Program) (w:World):PySem.KeyKind prog w Key where
 is:=zWU
 hash:=keyH w
 inj:=fun v a b ha hb=>by
  rcases zB5 ha with ⟨i,t,rfl,rfl⟩ | ⟨x,t,rfl,rfl⟩
  ·rcases zB5 hb with ⟨j,u,rfl,e⟩ | ⟨y,u,rfl,e⟩
   ·injection e with e1 _;rw [e1]
   ·exact nomatch e
  ·rcases zB5 hb with ⟨j,u,rfl,e⟩ | ⟨y,u,rfl,e⟩
   ·exact nomatch e
   ·injection e with e1 _;rw [e1]
 byValue:=fun k v h=>by
  rcases zB5 h with ⟨i,t,rfl,rfl⟩ | ⟨x,t,rfl,rfl⟩ <;> rfl
 pyHash:=fun hv h=>by
  rcases zB5 hv with ⟨i,t,rfl,rfl⟩ | ⟨x,t,rfl,rfl⟩
  ·exact wpAny_pyHash_int h
  ·exact wpAny_pyHash_str h
 eqBool:=fun hu hv h=>by
  rcases zB5 hu with ⟨i,t,rfl,rfl⟩ | ⟨x,t,rfl,rfl⟩
  ·rcases zB5 hv with ⟨j,u,rfl,rfl⟩ | ⟨y,u,rfl,rfl⟩
   ·rw [zU2] at h;exact wpAny_eqBool_int h
   ·rw [zVy] at h;exact SeqAt.EqAt.int_str i t y u _ _ _ _ h
  ·rcases zB5 hv with ⟨j,u,rfl,rfl⟩ | ⟨y,u,rfl,rfl⟩
   ·rw [zWB] at h;exact SeqAt.EqAt.str_int x t j u _ _ _ _ h
   ·rw [zV4] at h;exact wpAny_eqBool_str h
 «strs» := fun k x t v h=>by
  rcases zB5 h with ⟨i,u,rfl,e⟩ | ⟨y,u,rfl,e⟩
  ·exact nomatch e
  ·injection e with e1 _
   subst e1
   cases v <;> rfl
inductive V where
 | non | bl (b:Bool) | int (i:Int) | str (x:Str) | byt (b:Array UInt8) | flt (b:UInt64) | ref (a:Addr) | ty (n:String)
 deriving DecidableEq
def RelV:V→Value→Prop
 | .non,u=>u=Value.none
 | .bl b,u=>u=Value.bool b
 | .int i,u=>∃ t,u=Value.int i t
 | .str x,u=>∃ t,u=Value.str x t
 | .byt b,u=>∃ t,u=Value.bytes b t
 | .flt b,u=>∃ t,u=Value.float b t
 | .ref a,u=>u=Value.ref a
 | .ty n,u=>u=Value.type n
abbrev Vals:List V→List Value→Prop:=Paired RelV
theorem Vals.length {xs:List V} {us:List Value} (r:Vals xs us):xs.length=us.length:=Paired.length r
theorem Vals.get : ∀ {xs : List V} {us : List Value} {i : Nat} {x : V}, Vals xs us → xs[i]? = some x → ∃ u, us[i]? = some u ∧ RelV x u
  | _, _, _, _, .nil, e => by simp at e
  | _, _, 0, _, .cons r _, e => by simp at e; subst e; exact ⟨_, rfl, r⟩
  | _, _, i + 1, x, .cons _ t, e => by
    obtain ⟨u, h1, h2⟩ := Vals.get (i := i) (x := x) t (by simpa using e)
    exact ⟨u, by simpa using h1, h2⟩
theorem Vals.set {x:V} {u:Value} (r:RelV x u) : ∀ {xs:List V} {us:List Value} (i:Nat),Vals xs us→Vals (xs.set i x) (us.set i u)
 | _,_,_,.nil=>.nil
 | _,_,0,.cons _ t=>.cons r t
 | _,_,i+1,.cons q t=>.cons q (Vals.set r i t)
theorem Vals.append : ∀ {xs ys:List V} {us ws:List Value},Vals xs us→Vals ys ws→Vals (xs++ys) (us++ws)
 | _,_,_,_,.nil,s=>s
 | _,_,_,_,.cons r t,s=>.cons r (Vals.append t s)
theorem Vals.take : ∀ {xs:List V} {us:List Value} (n:Nat),Vals xs us→Vals (xs.take n) (us.take n)
 | _,_,0,_=>.nil
 | _,_,_+1,.nil=>.nil
 | _,_,n+1,.cons r t=>.cons r (Vals.take n t)
theorem Vals.drop : ∀ {xs:List V} {us:List Value} (n:Nat),Vals xs us→Vals (xs.drop n) (us.drop n)
 | _,_,0,r=>r
 | _,_,_+1,.nil=>.nil
 | _,_,n+1,.cons _ t=>Vals.drop n t
theorem Vals.none_of : ∀ {xs:List V} {us:List Value} {i:Nat},Vals xs us→xs[i]? = none→us[i]? = none:=fun {xs us i} r e=>by
 have h1:=r.length
 have h2:xs.length≤i:=List.getElem?_eq_none_iff.mp e
 exact List.getElem?_eq_none_iff.mpr (by omega)
def RelO:Option V→Option Value→Prop
 | some v,some u=>RelV v u
 | none,none=>True
 | _,_=>False
def KV {κ:Type}:List (κ × V)→List (κ × Value)→Prop:=Paired fun (p:κ × V) (q:κ × Value)=>p.1=q.1∧RelV p.2 q.2
def kV:Key→V
 | .inl i=>.int i
 | .inr x=>.str x
inductive HO where
 | lst (xs:List V)
 | tup (xs:List V)
 | dK (kvs:List (Key × V)) | dT (kvs:List (List Key × V))
 | set (S:Int→Bool) (n:Nat)
 | ins (C dx:Addr) (fs:List (Str × V))
 | own (x:Addr)
 | xd (fs:List (Str × V))
 | met (f x:Addr)
 | rng (lo hi:Int)
 | frz (o:Obj) (u:HO)
 | tbl (ps:Array Value)
 | ext (φ:Heap→Prop)
abbrev Hp:=Addr→Option HO
def upd (H:Hp) (a:Addr) (o:HO):Hp:=fun b=>if b=a then some o else H b
theorem zAU {H:Hp} {a:Addr} {o:HO}:upd H a o a=some o:=by unfold upd;rw [if_pos rfl]
theorem zBV {H:Hp} {a b:Addr} {o:HO} (h:b≠a):upd H a o b=H b:=by unfold upd;rw [if_neg h]
theorem zCp {H:Hp} {a:Addr} {o u:HO}:upd (upd H a o) a u=upd H a u:=by
 funext b;unfold upd;split <;> rfl
theorem zXB {H:Hp} {a b:Addr} {o u:HO} (h:H a=some o) (h':H b=some u) (d:o≠u):a≠b:=by
 intro e;subst e;rw [h] at h';exact d (Option.some.inj h')
theorem zCH {H:Hp} {a b:Addr} {o:HO} (h:H a=some o) (h':H b=none):a≠b:=by
 intro e;subst e;rw [h] at h';cases h'
section
variable (P : Program) (w : World)
def zEp (H:Hp) (h:Heap) (a:Addr):HO→Prop
 | .lst xs=>xs.length≤sizeLine ∧ ∃ (its:List Value) (n:Nat),Vals xs its∧h.get? a=some { cls:=.type "list", data:=.seq its.toArray n }
 | .tup xs=>xs.length≤sizeLine ∧ ∃ its:List Value,Vals xs its∧IsTup h a its.toArray
 | .dK kvs=>kvs.length≤sizeLine∧(a == sysModules)=false ∧ ∃ vs,KV kvs vs∧h.DictOf (zPh P w) a vs
 | .dT kvs=>kvs.length≤sizeLine∧(a == sysModules)=false ∧ ∃ xs:List (List Key × Addr × Value),
   Paired (fun (p:List Key × V) (q:List Key × Addr × Value)=>p.1=q.1∧H q.2.1=some (.tup (p.1.map kV))∧RelV p.2 q.2.2) kvs xs ∧
   ∃ o es ep,h.get? a=some o∧o.ExactDict∧o.data = .dict es ep∧es.toList=xs.map (entryOfKey (tupleKind (zPh P w)))∧(xs.map (·.1)).Nodup
 | .set S n=>h.SetOf (intKind P w) a S n
 | .ins C dx fs=>H dx=some (.own a)∧fs.length≤1000∧dx≠a∧h.get? a=some (W.instObj C dx) ∧
   ∃ mA,h.Ns1 dx mA∧(∀ f,RelO (fs.lookup f) (mA f))∧PySem.Within mA (fs.map (·.1))
 | .own _=>∃ o,h.get? a=some o
 | .xd fs=>∃ mA,h.Ns1 a mA ∧ ∀ f,RelO (fs.lookup f) (mA f)
 | .rng lo hi=>∃ t u v,h.get? a=some { cls:=.type "range", data:=.fields #[.int lo t,.int hi u,.int 1 v] }
 | .frz o u=>h.get? a=some o∧zEp H h a u
 | .tbl ps=>h.get? a=some { cls:=.none,data:=.fields ps }
 | .met f x=>h.get? a=some (W.methodObj (.ref f) (.ref x))
 | .ext φ=>φ h∧(∃ o,h.get? a=some o) ∧ ∀ h1 h2:Heap,φ h1→(∀ o,h1.get? a=some o→h2.get? a=some o)→φ h2
def HOk (H:Hp) (h:Heap):Prop:=∀ a o,H a=some o→zEp P w H h a o
end
section
variable {P : Program} {w : World} {H H' : Hp} {h h' : Heap} {a : Addr} {o : HO}
theorem zEp.lt (x:zEp P w H h a o):a < h.objs.size:=by
 cases o with
 | lst xs=>obtain ⟨_,_,_,_,e⟩:=x;exact Heap.lt_size e
 | tup xs=>obtain ⟨_,_,_,p⟩:=x;exact p.lt
 | dK kvs=>obtain ⟨_,_,_,_,o,_,_,e,_⟩:=x;exact Heap.lt_size e
 | dT kvs=>obtain ⟨_,_,_,_,o,_,_,e,_⟩:=x;exact Heap.lt_size e
 | set S n=>obtain ⟨o,_,_,_,e,_⟩:=x;exact Heap.lt_size e
 | ins C dx fs=>obtain ⟨_,_,_,e,_⟩:=x;exact Heap.lt_size e
 | own y=>obtain ⟨_,e⟩:=x;exact Heap.lt_size e
 | xd fs=>obtain ⟨_,⟨_,_,_,e,_⟩,_⟩:=x;exact Heap.lt_size e
 | rng lo hi=>obtain ⟨_,_,_,e⟩:=x;exact Heap.lt_size e
 | frz ob u=>obtain ⟨e,_⟩:=x;exact Heap.lt_size e
 | tbl ps=>exact Heap.lt_size (show h.get? a=some _ from x)
 | met f y=>exact Heap.lt_size (show h.get? a=some _ from x)
 | ext φ=>obtain ⟨_,⟨_,e⟩,_⟩:=x;exact Heap.lt_size e
theorem Paired.mapP {α β:Type} {F G:α→β→Prop} : ∀ {l₁:List α} {l₂:List β},Paired F l₁ l₂→(∀ a b,F a b→G a b)→Paired G l₁ l₂
 | _,_,.nil,_=>.nil
 | _,_,.cons r t,f=>.cons (f _ _ r) (Paired.mapP t f)
theorem zEp.stay (x : zEp P w H h a o) (k : ∀ b u, (b = a ∨ H b = some (.own a)) → h.get? b = some u → h'.get? b = some u)
    (ho : ∀ b, H b = some (.own a) → H' b = some (.own a)) (ht : ∀ b xs, H b = some (.tup xs) → H' b = some (.tup xs)) : zEp P w H' h' a o := by
  induction o with
  | lst xs => obtain ⟨z, its, n, r, e⟩ := x; exact ⟨z, its, n, r, k _ _ (.inl rfl) e⟩
  | tup xs => obtain ⟨z, its, r, ob, e, c⟩ := x; exact ⟨z, its, r, ob, k _ _ (.inl rfl) e, c⟩
  | dK kvs => obtain ⟨z, y, vs, r, ob, es, ep, e, c⟩ := x; exact ⟨z, y, vs, r, ob, es, ep, k _ _ (.inl rfl) e, c⟩
  | dT kvs =>
    obtain ⟨z, y, xs, r, ob, es, ep, e, c⟩ := x
    exact ⟨z, y, xs, Paired.mapP r fun p q z => ⟨z.1, ht _ _ z.2.1, z.2.2⟩, ob, es, ep, k _ _ (.inl rfl) e, c⟩
  | set S n => obtain ⟨ob, es, ep, t, e, c⟩ := x; exact ⟨ob, es, ep, t, k _ _ (.inl rfl) e, c⟩
  | ins C dx fs =>
    obtain ⟨d, z, ne, e, mA, ⟨od, es, ep, e2, c⟩, r⟩ := x
    exact ⟨ho _ d, z, ne, k _ _ (.inl rfl) e, mA, ⟨od, es, ep, k _ _ (.inr d) e2, c⟩, r⟩
  | own y => obtain ⟨ob, e⟩ := x; exact ⟨ob, k _ _ (.inl rfl) e⟩
  | xd fs => obtain ⟨mA, ⟨od, es, ep, e, c⟩, r⟩ := x; exact ⟨mA, ⟨od, es, ep, k _ _ (.inl rfl) e, c⟩, r⟩
  | rng lo hi => obtain ⟨t, u, v, e⟩ := x; exact ⟨t, u, v, k _ _ (.inl rfl) e⟩
  | frz ob u ih => obtain ⟨e, q⟩ := x; exact ⟨k _ _ (.inl rfl) e, ih q⟩
  | tbl ps =>
    have e : h.get? a = some { cls := .none, data := .fields ps } := x
    show h'.get? a = some { cls := .none, data := .fields ps }
    exact k a _ (.inl rfl) e
  | met f y =>
    have e : h.get? a = some (W.methodObj (.ref f) (.ref y)) := x
    show h'.get? a = some (W.methodObj (.ref f) (.ref y))
    exact k a _ (.inl rfl) e
  | ext φ => obtain ⟨p, ⟨o, e⟩, st⟩ := x; exact ⟨st _ _ p fun o q => k _ _ (.inl rfl) q, ⟨o, k _ _ (.inl rfl) e⟩, st⟩
theorem HOk.lt (x:HOk P w H h) (e:H a=some o):a < h.objs.size:=(x a o e).lt
theorem HOk.fresh (x:HOk P w H h) (e:h.objs.size≤a):H a=none:=by
 cases q:H a with
 | none=>rfl
 | some u=>exact absurd (Nat.lt_of_lt_of_le (x.lt q) e) (Nat.lt_irrefl _)
theorem HOk.kept (x:HOk P w H h) (k : ∀ b u,h.get? b=some u→h'.get? b=some u):HOk P w H h':=fun a o e =>
 (x a o e).stay (fun b u _ q=>k b u q) (fun _ q=>q) fun _ _ q=>q
theorem HOk.laid (x:HOk P w H h) (k : ∀ b u,h.get? b=some u→h'.get? b=some u) (hp:h.objs.size≤a) (new:zEp P w (upd H a o) h' a o):HOk P w (upd H a o) h':=fun b u e=>by
 have hn:=x.fresh hp
 by_cases hb:b=a
 ·subst hb;rw [zAU] at e;cases e;exact new
 ·rw [zBV hb] at e
  exact (x b u e).stay (fun c v _ q=>k c v q) (fun c q=>by rw [zBV (zCH q hn)];exact q) fun c xs q=>by rw [zBV (zCH q hn)];exact q
end
def Rd (H:Hp) (a:Addr) (u:HO):Prop:=H a=some u ∨ ∃ o,H a=some (.frz o u)
theorem Rd.of {H:Hp} {a:Addr} {u:HO} (h:H a=some u):Rd H a u:=.inl h
theorem Rd.ok {P:Program} {w:World} {H:Hp} {h:Heap} {a:Addr} {u:HO} (r:Rd H a u) (x:HOk P w H h):zEp P w H h a u:=by
 rcases r with r | ⟨o,r⟩
 ·exact x a u r
 ·obtain ⟨_,q⟩:=x a _ r
  exact q
def Mut:Option HO→Prop
 | some (.lst _)=>True
 | some (.dK _)=>True
 | some (.dT _)=>True
 | some (.set _ _)=>True
 | some (.ins _ _ _)=>True
 | some (.ext _)=>True
 | _=>False
section
variable {P : Program} {w : World} {H : Hp} {h h' : Heap} {x e : Addr} {o' : HO}
theorem HOk.write (ok:HOk P w H h) (mu:Mut (H x)) (he:e=x∨H e=some (.own x)) (k : ∀ b u,b≠e→h.get? b=some u→h'.get? b=some u) (heo : ∃ u,h'.get? e=some u)
  (new:zEp P w (upd H x o') h' x o'):HOk P w (upd H x o') h':=fun b u q=>by
 have nown : ∀ c y,H c=some (.own y)→c≠x:=fun c y r z=>by subst z;rw [r] at mu;exact mu
 have ntup : ∀ c xs,H c=some (.tup xs)→c≠x:=fun c xs r z=>by subst z;rw [r] at mu;exact mu
 by_cases hb:b=x
 ·subst hb;rw [zAU] at q;cases q;exact new
 ·rw [zBV hb] at q
  by_cases hbe:b=e
  ·have q':H b=some (.own x):=by
    rcases he with z | z
    ·exact absurd (hbe.trans z) hb
    ·rw [hbe];exact z
   rw [q] at q';cases q'
   obtain ⟨v,hv⟩:=heo
   exact ⟨v,by rw [hbe];exact hv⟩
  ·refine (ok b u q).stay (fun c v hc r=>k c v ?_ r) (fun c r=>by rw [zBV (nown c b r)];exact r) fun c xs r=>by rw [zBV (ntup c xs r)];exact r
   rcases hc with rfl | hc
   ·exact hbe
   ·rintro rfl
    rcases he with z | z
    ·exact nown c b hc z
    ·rw [hc] at z;cases z;exact hb rfl
end
structure Un (fs ex:List Addr) (H H':Hp) (h h':Heap):Prop where
 keep : ∀ b o,h.get? b=some o→H b=none→b ∉ fs→b ∉ ex→h'.get? b=some o
 slot : ∀ b o,h.get? b=some o→H b=none→b ∈ fs→b ∉ ex → ∃ sl,h'.get? b=some { o with slots:=sl }
 free : ∀ b o,h.get? b=some o→H b=none→b ∉ ex→H' b=none
 there : ∀ b o,h.get? b=some o→b ∉ ex → ∃ o',h'.get? b=some o'
 tups : ∀ b xs,H b=some (.tup xs)→H' b=some (.tup xs)
 frzs : ∀ b o u,H b=some (.frz o u)→H' b=some (.frz o u)
 tbls : ∀ b ps,H b=some (.tbl ps) → ∃ more,H' b=some (.tbl (ps++more))
section
variable {fs fs' ex ex' : List Addr} {H H1 H2 : Hp} {h h1 h2 h' : Heap} {a x e : Addr} {o : HO}
theorem Un.any (u:Un fs ex H H1 h h1) {b:Addr} {ob:Obj} (q:h.get? b=some ob) (n:H b=none) (hx:b ∉ ex) : ∃ sl,h1.get? b=some { ob with slots:=sl }:=by
 by_cases hb:b ∈ fs
 ·exact u.slot b ob q n hb hx
 ·exact ⟨ob.slots,u.keep b ob q n hb hx⟩
theorem Un.trans (a:Un fs ex H H1 h h1) (b:Un fs ex H1 H2 h1 h2):Un fs ex H H2 h h2 where
 keep:=fun c ob q n hc hx=>b.keep c ob (a.keep c ob q n hc hx) (a.free c ob q n hx) hc hx
 slot:=fun c ob q n hc hx=>by
  obtain ⟨sl,e1⟩:=a.slot c ob q n hc hx
  obtain ⟨sl',e2⟩:=b.slot c _ e1 (a.free c ob q n hx) hc hx
  exact ⟨sl',e2⟩
 free:=fun c ob q n hx=>by
  obtain ⟨o',e1⟩:=a.there c ob q hx
  exact b.free c o' e1 (a.free c ob q n hx) hx
 there:=fun c ob q hx=>by
  obtain ⟨o',e1⟩:=a.there c ob q hx
  exact b.there c o' e1 hx
 tups:=fun c xs q=>b.tups c xs (a.tups c xs q)
 frzs:=fun c ob xs q=>b.frzs c ob xs (a.frzs c ob xs q)
 tbls:=fun c ps q=>by
  obtain ⟨m1,e1⟩:=a.tbls c ps q
  obtain ⟨m2,e2⟩:=b.tbls c _ e1
  exact ⟨m1++m2,by rw [e2,Array.append_assoc]⟩
theorem Un.kept (k : ∀ b u,h.get? b=some u→h'.get? b=some u):Un fs ex H H h h':=
 ⟨fun b ob q _ _ _=>k b ob q,fun b ob q _ _ _=>⟨ob.slots,k b ob q⟩,fun _ _ _ n _=>n,fun b ob q _=>⟨ob,k b ob q⟩,fun _ _ q=>q,fun _ _ _ q=>q,fun _ ps q=>⟨#[],by rw [q];simp⟩⟩
theorem Un.refl:Un fs ex H H h h:=Un.kept fun _ _ q=>q
theorem Un.laid (k : ∀ b u,h.get? b=some u→h'.get? b=some u) (hp:h.objs.size≤a) (hn:H a=none):Un fs ex H (upd H a o) h h' where
 keep:=fun b u q _ _ _=>k b u q
 slot:=fun b u q _ _ _=>⟨u.slots,k b u q⟩
 free:=fun b u q n _=>by rw [zBV (Nat.ne_of_lt (Nat.lt_of_lt_of_le (Heap.lt_size q) hp))];exact n
 there:=fun b u q _=>⟨u,k b u q⟩
 tups:=fun b xs q=>by rw [zBV (zCH q hn)];exact q
 frzs:=fun b u xs q=>by rw [zBV (zCH q hn)];exact q
 tbls:=fun b ps q=>⟨#[],by rw [zBV (zCH q hn),q];simp⟩
theorem Un.write (mu:Mut (H x)) (he:e=x∨H e=some (.own x)) (k : ∀ b u,b≠e→h.get? b=some u→h'.get? b=some u) (heo : ∃ u,h'.get? e=some u):Un fs ex H (upd H x o) h h':=by
 have hx : ∀ b,H b=none→b≠x:=fun b n z=>by subst z;rw [n] at mu;exact mu
 have hb : ∀ b,H b=none→b≠e:=fun b n z=>by
  subst z
  rcases he with r | r
  ·exact hx b n r
  ·rw [n] at r;cases r
 have hm : ∀ b u,H b=some u → ¬ Mut (some u)→b≠x:=fun b u q nm z=>by subst z;rw [q] at mu;exact nm mu
 refine ⟨fun b u q n _ _=>k b u (hb b n) q,fun b u q n _ _=>⟨u.slots,k b u (hb b n) q⟩,fun b u q n _=>by rw [zBV (hx b n)];exact n,fun b u q _=>?_,
  fun b xs q=>by rw [zBV (hm b _ q fun z=>z)];exact q,fun b u xs q=>by rw [zBV (hm b _ q fun z=>z)];exact q,fun b ps q=>⟨#[],by rw [zBV (hm b _ q fun z=>z),q];simp⟩⟩
 by_cases hbe:b=e
 ·subst hbe;exact heo
 ·exact ⟨u,k b u hbe q⟩
theorem Un.mono (u:Un fs ex H H1 h h1) (hs : ∀ b ∈ fs,b ∈ fs') (hx : ∀ b ∈ ex,b ∈ ex'):Un fs' ex' H H1 h h1:=
 ⟨fun b ob q n hb he=>u.keep b ob q n (fun z=>hb (hs b z)) fun z=>he (hx b z),fun _ _ q n _ he=>u.any q n fun z=>he (hx _ z),fun b ob q n he=>u.free b ob q n fun z=>he (hx b z),fun b ob q he=>u.there b ob q fun z=>he (hx b z),u.tups,u.frzs,u.tbls⟩
end
def trk (h:Heap) (H:Hp):List Addr:=(List.range h.objs.size).filter fun a=>(H a).isSome
def hidT (h:Heap) (H:Hp):Heap:=W.hideAll h (trk h H)
theorem zQ4 (h:Heap) (H:Hp):(hidT h H).objs.size=h.objs.size:=W.hideAll_size _ _
theorem zR1 {h:Heap} {H:Hp} {b:Addr} {o:Obj} (e:h.get? b=some o) (n:H b=none):(hidT h H).get? b=some o:=
 W.hideAll_get _ e fun hm=>by
  have q:(H b).isSome=true:=(List.mem_filter.mp hm).2
  rw [n] at q;simp at q
theorem zUO {h : Heap} {H : Hp} {b : Addr} {o : Obj} (e : (hidT h H).get? b = some o) : h.get? b = some o ∧ H b = none := by
  have e' : h.get? b = some o := W.of_hideAll (trk h H) e
  refine ⟨e', ?_⟩
  cases q : H b with
  | none => rfl
  | some x =>
    have hm : b ∈ trk h H := List.mem_filter.mpr ⟨List.mem_range.mpr (Heap.lt_size e'), by simp [q]⟩
    have z : (hidT h H).get? b = none := W.hideAll_none (trk h H) hm
    rw [z] at e; cases e
def zTK (g h:Heap) (L:Addr):List (Addr × Obj):=(List.range h.objs.size).filterMap fun a=>if a=L∨(g.get? a).isSome=true then none else (h.get? a).map fun o=>(a,o)
def rest (g h:Heap) (L d:Addr):List (Addr × Obj):=(zTK g h L).filter fun p=>decide (p.1≠d)
structure Mod (K:W.Frag) (mg:Str→Option Value) (base:Heap):Prop where
 kin:K.In base
 glob:base.Ns mainGlobals mg
 blt : ∃ mb,base.Ns builtinsNs mb ∧ ∀ x:Str,x ≠ "__name__" → mb x=bootBuiltins x
 nolimit:base.NoLimit
structure Cx where
 prog:Program
 w:World
 K:W.Frag
 mg:Str→Option Value
 base:Heap
 A:Around
 N:List Str
 s₀:Shared
 H₀:Hp
 env:Env
 outer:List Env
 stack:List Env
 ex:List Addr
 fn:Str→Bool
 calm:Bool
 pn:List (Addr × Obj)
 xe:Value→Shared→Prop
def frs (l:List Env):List Addr:=l.filterMap (·.frame)
abbrev Cx.fs (X:Cx):List Addr:=frs X.outer
def Vis (sc:Scope) (x:Str):Prop:=sc.names.lookup x=some .local∨sc.names.lookup x=some .cell∨sc.names.lookup x=some .free
def Loc (sc:Scope) (x:Str):Prop:=sc.names.lookup x=some .local∨sc.names.lookup x=some .cell
def Look (env:Env) (h:Heap) (m:Str→Option Value) (x:Str) (u:Value):Prop:=
 (env.kindOf x=some .local∧m x=some u)∨((env.kindOf x=some .cell∨env.kindOf x=some .free) ∧ ∃ c,env.cells.lookup x=some c∧h.IsCell c (some u))
structure Cx.Ok (X:Cx):Prop where
 mod:Mod X.K X.mg X.base
 kind:X.env.scope.kind = .function
 glob:X.env.globals=mainGlobals
 blt:X.env.builtins=builtinsNs
 above:X.s₀.heap.objs.size≤X.env.locals
 inj : ∀ x y c,X.env.cells.lookup x=some c→X.env.cells.lookup y=some c→x=y
 has : ∀ x,(X.env.kindOf x=some .cell∨X.env.kindOf x=some .free) → ∃ c,X.env.cells.lookup x=some c
 cab : ∀ x c,X.fn x=true→X.env.cells.lookup x=some c→X.s₀.heap.objs.size≤c
 hd:X.calm=true→X.A.handled=none
 frames:X.A.frames=some X.stack
 stk:X.stack=X.outer∨(X.stack=X.env::X.outer∧X.env.frame=some X.env.locals)
 exf : ∀ b ∈ X.ex,b≠X.env.locals ∧ ∀ x c,X.env.cells.lookup x=some c→c≠b
 bs : ∀ b o,X.base.get? b=some o→X.s₀.heap.get? b=some o∧X.H₀ b=none
 bsz:X.base.objs.size≤X.s₀.heap.objs.size
 noex : ∀ b o,X.base.get? b=some o→b ∉ X.ex
 exfs : ∀ b ∈ X.ex,b ∉ X.fs
 funs:X.s₀.heap.FunFrames X.base X.outer
 frf : ∀ b ∈ X.fs,X.H₀ b=none
structure Inv (X:Cx) (pins:List (Addr × Obj)) (σ:List (Option V)) (H:Hp) (s:Shared):Prop where
 ok:X.Ok
 os:s.os=X.s₀.os
 bare:AllBare s.gens
 base:Un X.fs X.ex X.H₀ H X.s₀.heap s.heap
 loc : ∃ m,s.heap.Ns X.env.locals m ∧ ∀ (i:Nat) (x:Str) (v:V),X.N[i]? = some x→σ[i]? = some (some v)→Vis X.env.scope x → ∃ u,RelV v u∧Look X.env s.heap m x u
 cell : ∀ x c,X.env.cells.lookup x=some c → ∃ v,s.heap.IsCell c v
 free:H X.env.locals=none
 freeC : ∀ x c,X.env.cells.lookup x=some c→H c=none
 pin : ∀ p ∈ X.pn++pins,s.heap.get? p.1=some p.2∧H p.1=none∧p.1≠X.env.locals∧p.1 ∉ X.fs ∧ ∀ v,p.2.data ≠ .cell v
 hok:HOk X.prog X.w H s.heap
 len:σ.length=X.N.length
section
variable {X : Cx} {pins : List (Addr × Obj)} {σ : List (Option V)} {H H' : Hp} {s : Shared} {h' : Heap}
theorem Cx.Ok.nofr (ok:X.Ok) {b:Addr} {o:Obj} (e:X.base.get? b=some o):b ∉ X.fs:=fun hb=>by
 have:=(ok.funs.mem hb).1
 rw [e] at this;cases this
theorem Inv.bs (I:Inv X pins σ H s) : ∀ b o,X.base.get? b=some o→s.heap.get? b=some o∧H b=none:=fun b o e =>
 ⟨I.base.keep b o (I.ok.bs b o e).1 (I.ok.bs b o e).2 (I.ok.nofr e) (I.ok.noex b o e),I.base.free b o (I.ok.bs b o e).1 (I.ok.bs b o e).2 (I.ok.noex b o e)⟩
theorem Inv.bk (I:Inv X pins σ H s) : ∀ b o,X.base.get? b=some o→s.heap.get? b=some o:=fun b o e=>(I.bs b o e).1
theorem Inv.mod (I:Inv X pins σ H s):Mod X.K X.mg X.base:=I.ok.mod
theorem Inv.kIn (I:Inv X pins σ H s):X.K.In s.heap:=I.ok.mod.kin.keeps I.bk
theorem Inv.nolimit (I:Inv X pins σ H s):s.heap.NoLimit:=I.ok.mod.nolimit.keeps I.bk
theorem Inv.fr (I:Inv X pins σ H s) : ∃ m,Fr X.base X.env.locals s.heap m:=
 let ⟨m,hn,_⟩:=I.loc
 ⟨m,hn,I.bk,Nat.le_trans I.ok.bsz I.ok.above⟩
theorem Inv.lt (I:Inv X pins σ H s):X.env.locals < s.heap.objs.size:=let ⟨_,hn,_⟩:=I.loc;hn.lt
theorem Inv.sz (I:Inv X pins σ H s):X.s₀.heap.objs.size≤s.heap.objs.size:=Nat.le_trans I.ok.above (Nat.le_of_lt I.lt)
theorem Inv.nofs (I:Inv X pins σ H s) {a:Addr} (h:s.heap.objs.size≤a):a ∉ X.fs:=fun hb=>by
 obtain ⟨_,o,ho,_⟩:=I.ok.funs.mem hb
 exact absurd (Nat.lt_of_lt_of_le (Heap.lt_size ho) (Nat.le_trans I.sz h)) (Nat.lt_irrefl _)
theorem Inv.cne (I:Inv X pins σ H s) : ∀ x c,X.env.cells.lookup x=some c→c≠X.env.locals:=fun x c e z=>by
 obtain ⟨v,o,ho,hd⟩:=I.cell x c e
 obtain ⟨m,⟨o',es,ep,ho',hd',_⟩,_⟩:=I.loc
 rw [z,ho'] at ho;cases ho;rw [hd'] at hd;cases hd
theorem Inv.funs (I : Inv X pins σ H s) : s.heap.FunFrames X.base X.outer := by
  have all : ∀ (l : List Env), (∀ b ∈ frs l, b ∈ X.fs) → X.s₀.heap.FunFrames X.base l → s.heap.FunFrames X.base l := by
    intro l
    induction l with
    | nil => intro _ _; trivial
    | cons env r ih =>
      intro hs hl
      obtain ⟨hk, ⟨L, o, hf, hn, ho, hd⟩, hr⟩ := hl
      have hL : L ∈ X.fs := hs L (by unfold frs; rw [List.filterMap_cons, hf]; exact List.mem_cons_self)
      obtain ⟨sl, e⟩ := I.base.slot L o ho (I.ok.frf L hL) hL fun z => I.ok.exfs L z hL
      exact ⟨hk, ⟨L, _, hf, hn, e, hd⟩, ih (fun b hb => hs b (by unfold frs; rw [List.filterMap_cons, hf]; exact List.mem_cons_of_mem _ hb)) hr⟩
  exact all X.outer (fun _ hb => hb) I.ok.funs
theorem Inv.stack (I:Inv X pins σ H s):s.heap.FunFrames X.base X.stack:=by
 rcases I.ok.stk with e | ⟨e,hf⟩
 ·rw [e];exact I.funs
 ·rw [e]
  obtain ⟨m,hn,_⟩:=I.loc
  refine .cons (by rw [I.ok.kind];decide) hf hn ?_ I.funs
  exact Heap.get?_none_of_le (Nat.le_trans I.ok.bsz I.ok.above)
theorem Inv.stkSub (I:Inv X pins σ H s) : ∀ b ∈ frs X.stack,b ∈ X.env.locals::X.fs:=fun b hb=>by
 rcases I.ok.stk with e | ⟨e,hf⟩
 ·rw [e] at hb;exact List.mem_cons_of_mem _ hb
 ·rw [e] at hb
  unfold frs at hb
  rw [List.filterMap_cons,hf] at hb
  exact hb
theorem Inv.stkFree (I:Inv X pins σ H s) : ∀ b ∈ frs X.stack,H b=none:=fun b hb=>by
 rcases List.mem_cons.mp (I.stkSub b hb) with e | hb
 ·rw [e];exact I.free
 ·obtain ⟨_,o,ho,_⟩:=I.ok.funs.mem hb
  exact I.base.free b o ho (I.ok.frf b hb) fun z=>I.ok.exfs b z hb
theorem Inv.step {g':Array GenState} {t':Nat} {d':Drawn} {ch:List Addr} (I:Inv X pins σ H s)
  (hch : ∀ b ∈ ch,(b ∈ X.ex∨X.s₀.heap.objs.size≤b)∧b≠X.env.locals∧(∀ x c,X.env.cells.lookup x=some c→c≠b) ∧ ∀ p ∈ X.pn++pins,p.1≠b)
  (keep : ∀ b o,b≠X.env.locals→b ∉ X.fs→b ∉ ch→s.heap.get? b=some o→H b=none→h'.get? b=some o)
  (slot : ∀ b o,b≠X.env.locals→b ∈ X.fs→b ∉ ch→s.heap.get? b=some o→H b=none → ∃ sl,h'.get? b=some { o with slots:=sl }) (free : ∀ b o,b ∉ ch→s.heap.get? b=some o→H b=none→H' b=none)
  (there : ∀ b o,b ∉ ch→s.heap.get? b=some o → ∃ o',h'.get? b=some o')
  (tups : ∀ b xs,H b=some (.tup xs)→H' b=some (.tup xs)) (frzs : ∀ b o u,H b=some (.frz o u)→H' b=some (.frz o u)) (tbls : ∀ b ps,H b=some (.tbl ps) → ∃ more,H' b=some (.tbl (ps++more)))
  (ns : ∀ m,s.heap.Ns X.env.locals m→h'.Ns X.env.locals m) (hok:HOk X.prog X.w H' h') (hg:AllBare g') :
  Inv X pins σ H' { s with heap:=h',gens:=g',drawn:=d',toks:=t' }:=by
 have neL : ∀ b o,X.s₀.heap.get? b=some o→b≠X.env.locals:=fun b o e=>Nat.ne_of_lt (Nat.lt_of_lt_of_le (Heap.lt_size e) I.ok.above)
 have neC : ∀ b o,X.s₀.heap.get? b=some o→b ∉ X.ex→b ∉ ch:=fun b o e hx hb=>by
  rcases (hch b hb).1 with z | z
  ·exact hx z
  ·exact absurd (Nat.lt_of_lt_of_le (Heap.lt_size e) z) (Nat.lt_irrefl _)
 have cellK : ∀ x c,X.env.cells.lookup x=some c → ∀ v,s.heap.IsCell c v→h'.IsCell c v:=fun x c e v ⟨o,ho,hd⟩=>by
  have nch:c ∉ ch:=fun z=>(hch c z).2.2.1 x c e rfl
  by_cases hc:c ∈ X.fs
  ·obtain ⟨sl,q⟩:=slot c o (I.cne x c e) hc nch ho (I.freeC x c e)
   exact ⟨_,q,hd⟩
  ·exact ⟨o,keep c o (I.cne x c e) hc nch ho (I.freeC x c e),hd⟩
 refine ⟨I.ok,I.os,hg,⟨fun b o e n hb hx=>?_,fun b o e n hb hx=>?_,fun b o e n hx=>?_,fun b o e hx=>?_,fun b xs e=>tups b xs (I.base.tups b xs e),fun b o xs e=>frzs b o xs (I.base.frzs b o xs e),fun b ps e=>?_⟩,?_,fun x c e=>?_,?_,fun x c e=>?_,fun p hp=>?_,hok,I.len⟩
 ·exact keep b o (neL b o e) hb (neC b o e hx) (I.base.keep b o e n hb hx) (I.base.free b o e n hx)
 ·obtain ⟨sl,e1⟩:=I.base.slot b o e n hb hx
  obtain ⟨sl',e2⟩:=slot b _ (neL b o e) hb (neC b o e hx) e1 (I.base.free b o e n hx)
  exact ⟨sl',e2⟩
 ·obtain ⟨o',e1⟩:=I.base.there b o e hx
  exact free b o' (neC b o e hx) e1 (I.base.free b o e n hx)
 ·obtain ⟨o',e1⟩:=I.base.there b o e hx
  exact there b o' (neC b o e hx) e1
 ·obtain ⟨m1,e1⟩:=I.base.tbls b ps e
  obtain ⟨m2,e2⟩:=tbls b _ e1
  exact ⟨m1++m2,by rw [e2,Array.append_assoc]⟩
 ·obtain ⟨m,hn,hl⟩:=I.loc
  refine ⟨m,ns m hn,fun i x v e1 e2 e3=>?_⟩
  obtain ⟨u,r,l⟩:=hl i x v e1 e2 e3
  refine ⟨u,r,?_⟩
  rcases l with l | ⟨k,c,e,z⟩
  ·exact .inl l
  ·exact .inr ⟨k,c,e,cellK x c e _ z⟩
 ·obtain ⟨v,z⟩:=I.cell x c e
  exact ⟨v,cellK x c e v z⟩
 ·obtain ⟨m,⟨o,_,_,ho,_⟩,_⟩:=I.loc
  exact free _ o (fun z=>(hch _ z).2.1 rfl) ho I.free
 ·obtain ⟨v,o,ho,hd⟩:=I.cell x c e
  exact free c o (fun z=>(hch c z).2.2.1 x c e rfl) ho (I.freeC x c e)
 ·obtain ⟨e,n,ne,nf,d⟩:=I.pin p hp
  have nch:p.1 ∉ ch:=fun z=>(hch p.1 z).2.2.2 p hp rfl
  exact ⟨keep p.1 p.2 ne nf nch e n,free p.1 p.2 nch e n,ne,nf,d⟩
theorem Inv.un {t':Nat} (I:Inv X pins σ H s) (u:Un X.fs [] H H' s.heap h') (hok:HOk X.prog X.w H' h'):Inv X pins σ H' { s with heap:=h',toks:=t' }:=by
 obtain ⟨m,⟨o,es,ep,ho,r⟩,_⟩:=id I.loc
 obtain ⟨sl,hL⟩:=u.any ho I.free (by simp)
 exact I.step (g':=s.gens) (d':=s.drawn) (ch:=[]) (fun _ z=>nomatch z) (fun b o _ hb _ e n=>u.keep b o e n hb (by simp)) (fun b o _ hb _ e n=>u.slot b o e n hb (by simp)) (fun b o _ e n=>u.free b o e n (by simp)) (fun b o _ e=>u.there b o e (by simp)) u.tups u.frzs u.tbls (fun m' hm=>by
  obtain ⟨o',es',ep',ho',r'⟩:=hm
  rw [ho] at ho';cases ho'
  exact ⟨_,es',ep',hL,r'⟩) hok I.bare
theorem Inv.call {g':Array GenState} {t':Nat} {d':Drawn} {ch:List Addr} (I:Inv X pins σ H s) (u:Un (frs X.stack) ch H H' s.heap h') (hok:HOk X.prog X.w H' h') (hg:AllBare g')
  (hch : ∀ b ∈ ch,(b ∈ X.ex∨X.s₀.heap.objs.size≤b)∧b≠X.env.locals∧(∀ x c,X.env.cells.lookup x=some c→c≠b) ∧ ∀ p ∈ X.pn++pins,p.1≠b) :
  Inv X pins σ H' { s with heap:=h',gens:=g',drawn:=d',toks:=t' }:=by
 obtain ⟨m,⟨o,es,ep,ho,r⟩,_⟩:=id I.loc
 obtain ⟨sl,hL⟩:=u.any ho I.free fun z=>(hch _ z).2.1 rfl
 exact I.step (ch:=ch) hch (fun b o hL hb hc e n=>u.keep b o e n (fun z=>(List.mem_cons.mp (I.stkSub b z)).elim hL hb) hc) (fun b o _ _ hc e n=>u.any e n hc) (fun b o hc e n=>u.free b o e n hc) (fun b o hc e=>u.there b o e hc) u.tups u.frzs u.tbls (fun m' hm=>by
  obtain ⟨o',es',ep',ho',r'⟩:=hm
  rw [ho] at ho';cases ho'
  exact ⟨_,es',ep',hL,r'⟩) hok hg
theorem Inv.turned {t':Nat} {it:Addr} (I:Inv X pins σ H s) (k : ∀ b o,b≠it→s.heap.get? b=some o→h'.get? b=some o) (hn:H it=none) (hL:it≠X.env.locals)
  (h1:it ∈ X.ex∨X.s₀.heap.objs.size≤it) (h2 : ∀ x c,X.env.cells.lookup x=some c→c≠it) (h3 : ∀ p ∈ X.pn++pins,p.1≠it):Inv X pins σ H { s with heap:=h',toks:=t' }:=by
 have nit : ∀ b u,H b=some u→b≠it:=fun b u e z=>by rw [z,hn] at e;cases e
 refine I.step (g':=s.gens) (d':=s.drawn) (ch:=[it]) (fun b hb=>?_) (fun b o _ _ hc e _=>k b o (fun z=>hc (by simp [z])) e) (fun b o _ _ hc e _=>⟨o.slots,k b o (fun z=>hc (by simp [z])) e⟩) (fun _ _ _ _ n=>n)
  (fun b o hc e=>⟨o,k b o (fun z=>hc (by simp [z])) e⟩) (fun _ _ e=>e) (fun _ _ _ e=>e) (fun b ps e=>⟨#[],by rw [e];simp⟩) (fun m hm=>?_) (fun b u e=>?_) I.bare
 ·have e:b=it:=by simpa using hb
  subst e
  exact ⟨h1,hL,h2,h3⟩
 ·obtain ⟨o,es,ep,ho,r⟩:=hm
  exact ⟨o,es,ep,k _ o (Ne.symm hL) ho,r⟩
 ·refine (I.hok b u e).stay (fun c v hc q=>k c v ?_ q) (fun _ q=>q) fun _ _ q=>q
  rcases hc with z | z
  ·rw [z];exact nit b u e
  ·exact nit c _ z
theorem Inv.tok (I:Inv X pins σ H s) (t:Nat):Inv X pins σ H { s with toks:=t }:=I.un (h':=s.heap) (t':=t) Un.refl I.hok
theorem Inv.kept {t':Nat} (I:Inv X pins σ H s) (k : ∀ b u,s.heap.get? b=some u→h'.get? b=some u):Inv X pins σ H { s with heap:=h',toks:=t' }:=I.un (Un.kept k) (I.hok.kept k)
theorem Inv.laid {a:Addr} {o:HO} {t':Nat} (I:Inv X pins σ H s) (k : ∀ b u,s.heap.get? b=some u→h'.get? b=some u) (hp:s.heap.objs.size≤a) (new:zEp X.prog X.w (upd H a o) h' a o) :
  Inv X pins σ (upd H a o) { s with heap:=h',toks:=t' }:=I.un (Un.laid k hp (I.hok.fresh hp)) (I.hok.laid k hp new)
theorem Inv.write {x e:Addr} {o:HO} {t':Nat} (I:Inv X pins σ H s) (mu:Mut (H x)) (he:e=x∨H e=some (.own x)) (k : ∀ b u,b≠e→s.heap.get? b=some u→h'.get? b=some u) (heo : ∃ u,h'.get? e=some u)
  (new:zEp X.prog X.w (upd H x o) h' x o):Inv X pins σ (upd H x o) { s with heap:=h',toks:=t' }:=I.un (Un.write mu he k heo) (I.hok.write mu he k heo new)
theorem Inv.weak {σ':List (Option V)} (I:Inv X pins σ H s) (hl:σ'.length=σ.length) (w : ∀ (i:Nat) v,σ'[i]? = some (some v)→σ[i]? = some (some v)):Inv X pins σ' H s:=
 ⟨I.ok,I.os,I.bare,I.base,let ⟨m,hn,hl'⟩:=I.loc;⟨m,hn,fun i x v e1 e2 e3=>hl' i x v e1 (w i v e2) e3⟩,I.cell,I.free,I.freeC,I.pin,I.hok,hl.trans I.len⟩
theorem Inv.pins_of {pins':List (Addr × Obj)} (I:Inv X pins σ H s) (h : ∀ p ∈ pins',s.heap.get? p.1=some p.2∧H p.1=none∧p.1≠X.env.locals∧p.1 ∉ X.fs ∧ ∀ v,p.2.data ≠ .cell v):Inv X pins' σ H s:=
 ⟨I.ok,I.os,I.bare,I.base,I.loc,I.cell,I.free,I.freeC,fun p hp=>(List.mem_append.mp hp).elim (fun z=>I.pin p (List.mem_append_left _ z)) (h p),I.hok,I.len⟩
theorem zNq {N:List Str} (hN:N.Nodup) {i j:Nat} {x:Str} (a:N[i]? = some x) (b:N[j]? = some x):i=j:=by
 obtain ⟨h1,e1⟩:=List.getElem?_eq_some_iff.mp a
 obtain ⟨h2,e2⟩:=List.getElem?_eq_some_iff.mp b
 exact (List.getElem_inj hN).mp (e1.trans e2.symm)
theorem zMf {M:Model} {A:Around} {E:Value→Shared→Prop} {i:Nat} {x:Str} {v:V} {u:Value} {Q:Unit→Shared→Prop} (I:Inv X pins σ H s) (hN:X.N.Nodup) (hi:X.N[i]? = some x) (hx:Loc X.env.scope x) (r:RelV v u)
  (h : ∀ s',Inv X pins (σ.set i (some v)) H s'→(∃ a,Heap.SameBut a s.heap s'.heap∧(a=X.env.locals∨X.env.cells.lookup x=some a))→Q () s') (hf:X.fn x=true∨X.env.scope.names.lookup x=some .local:=by first | exact .inl rfl | exact .inr rfl | assumption):wpAny M A (storeName X.env x u) Q E s:=by
 obtain ⟨m,hn,hl⟩:=id I.loc
 have hcls:(X.env.scope.kind == .class || (X.env.scope.kind == .module && X.env.locals != X.env.globals))=false:=by rw [I.ok.kind];rfl
 have hiσ:i < σ.length:=by rw [I.len];exact (List.getElem?_eq_some_iff.mp hi).1
 have cne:=I.cne
 have tracked : ∀ {a:Addr} {h':Heap},(∃ o,s.heap.get? a=some o∧H a=none)→Heap.SameBut a s.heap h'→HOk X.prog X.w H h':=fun {a h'} ha hs b ob e=>by
  obtain ⟨_,_,hfree⟩:=ha
  refine (I.hok b ob e).stay (fun c w' hc q=>(hs.2 c ?_).trans q) (fun _ q=>q) fun _ _ q=>q
  rintro rfl
  rcases hc with rfl | hc
  ·rw [hfree] at e;cases e
  ·rw [hfree] at hc;cases hc
 rcases hx with hk | hk
 ·refine wpAny_storeName_local hk hn (fun h' hn' hs=>?_) hcls
  obtain ⟨oL,_,_,hoL,_⟩:=id hn
  refine h _ ⟨I.ok,I.os,I.bare,⟨fun b o e n hb hx=>?_,fun b o e n hb hx=>?_,I.base.free,fun b o e hx=>?_,I.base.tups,I.base.frzs,I.base.tbls⟩,⟨_,hn',fun j y v' e1 e2 e3=>?_⟩,fun y c e=>?_,I.free,I.freeC,fun p hp=>?_,tracked ⟨oL,hoL,I.free⟩ hs,by simpa using I.len⟩ ⟨_,hs,.inl rfl⟩
  ·exact (hs.2 b (Nat.ne_of_lt (Nat.lt_of_lt_of_le (Heap.lt_size e) I.ok.above))).trans (I.base.keep b o e n hb hx)
  ·obtain ⟨sl,e1⟩:=I.base.slot b o e n hb hx
   exact ⟨sl,(hs.2 b (Nat.ne_of_lt (Nat.lt_of_lt_of_le (Heap.lt_size e) I.ok.above))).trans e1⟩
  ·obtain ⟨o',e1⟩:=I.base.there b o e hx
   exact ⟨o',(hs.2 b (Nat.ne_of_lt (Nat.lt_of_lt_of_le (Heap.lt_size e) I.ok.above))).trans e1⟩
  ·by_cases hj:j=i
   ·subst hj
    rw [hi] at e1;cases e1
    rw [List.getElem?_set_self hiσ] at e2
    cases e2
    exact ⟨u,r,.inl ⟨hk,by simp⟩⟩
   ·rw [List.getElem?_set_ne (Ne.symm hj)] at e2
    obtain ⟨u',r',q⟩:=hl j y v' e1 e2 e3
    refine ⟨u',r',?_⟩
    rcases q with ⟨k,e⟩ | ⟨k,c,e,z⟩
    ·refine .inl ⟨k,?_⟩
     have:y≠x:=fun e=>hj (zNq hN e1 (e ▸ hi))
     simp [this,e]
    ·exact .inr ⟨k,c,e,z.sameBut hs (cne y c e)⟩
  ·obtain ⟨w',z⟩:=I.cell y c e
   exact ⟨w',z.sameBut hs (cne y c e)⟩
  ·obtain ⟨e,n,ne,nf,d⟩:=I.pin p hp
   exact ⟨(hs.2 p.1 ne).trans e,n,ne,nf,d⟩
 ·have hfn:X.fn x=true:=by
   rcases hf with z | z
   ·exact z
   ·rw [z] at hk;cases hk
  obtain ⟨c,hc⟩:=I.ok.has x (.inl hk)
  obtain ⟨w',z⟩:=I.cell x c hc
  refine wpAny_storeName_cell I.ok.kind hk hc z (fun h' hc' hs=>?_)
  obtain ⟨oc,hoc,hocd⟩:=id z
  refine h { s with heap:=h' } ⟨I.ok,I.os,I.bare,⟨fun b o e n hb hx=>?_,fun b o e n hb hx=>?_,I.base.free,fun b o e hx=>?_,I.base.tups,I.base.frzs,I.base.tbls⟩,⟨m,hn.sameBut hs (Ne.symm (cne x c hc)),fun j y v' e1 e2 e3=>?_⟩,fun y c' e=>?_,I.free,I.freeC,fun p hp=>?_,tracked ⟨oc,hoc,I.freeC x c hc⟩ hs,by simpa using I.len⟩ ⟨c,hs,.inr hc⟩
  ·exact (hs.2 b (Nat.ne_of_lt (Nat.lt_of_lt_of_le (Heap.lt_size e) (I.ok.cab x c hfn hc)))).trans (I.base.keep b o e n hb hx)
  ·obtain ⟨sl,e1⟩:=I.base.slot b o e n hb hx
   exact ⟨sl,(hs.2 b (Nat.ne_of_lt (Nat.lt_of_lt_of_le (Heap.lt_size e) (I.ok.cab x c hfn hc)))).trans e1⟩
  ·obtain ⟨o',e1⟩:=I.base.there b o e hx
   exact ⟨o',(hs.2 b (Nat.ne_of_lt (Nat.lt_of_lt_of_le (Heap.lt_size e) (I.ok.cab x c hfn hc)))).trans e1⟩
  ·by_cases hj:j=i
   ·subst hj
    rw [hi] at e1;cases e1
    rw [List.getElem?_set_self hiσ] at e2
    cases e2
    exact ⟨u,r,.inr ⟨.inl hk,c,hc,hc'⟩⟩
   ·rw [List.getElem?_set_ne (Ne.symm hj)] at e2
    obtain ⟨u',r',q⟩:=hl j y v' e1 e2 e3
    refine ⟨u',r',?_⟩
    rcases q with q | ⟨k,c',e,z'⟩
    ·exact .inl q
    ·refine .inr ⟨k,c',e,z'.sameBut hs ?_⟩
     rintro rfl
     exact hj (zNq hN e1 (I.ok.inj _ _ _ e hc ▸ hi))
  ·by_cases hcc:c'=c
   ·subst hcc;exact ⟨_,hc'⟩
   ·obtain ⟨w2,z2⟩:=I.cell y c' e
    exact ⟨w2,z2.sameBut hs hcc⟩
  ·obtain ⟨e,n,ne,nf,d⟩:=I.pin p hp
   refine ⟨(hs.2 p.1 ?_).trans e,n,ne,nf,d⟩
   intro q
   rw [q,hoc] at e
   have q':oc=p.2:=Option.some.inj e
   exact d w' (by rw [← q'];exact hocd)
theorem zFq {M:Model} {A:Around} {E:Value→Shared→Prop} {i:Nat} {x:Str} {v:V} {u:Value} {Q:Unit→Shared→Prop} (I:Inv X pins σ H s) (hN:X.N.Nodup) (hi:X.N[i]? = some x) (hx:Loc X.env.scope x) (r:RelV v u)
  (h : ∀ s',Inv X pins (σ.set i (some v)) H s'→Q () s') (hf:X.fn x=true∨X.env.scope.names.lookup x=some .local:=by first | exact .inl rfl | exact .inr rfl | assumption):wpAny M A (storeName X.env x u) Q E s:=
 zMf I hN hi hx r (fun s' I' _=>h s' I') hf
theorem Inv.call' {s':Shared} {ch:List Addr} (I:Inv X pins σ H s) (ho:s'.os=s.os) (u:Un (frs X.stack) ch H H' s.heap s'.heap) (hok:HOk X.prog X.w H' s'.heap) (hg:AllBare s'.gens)
  (hch : ∀ b ∈ ch,(b ∈ X.ex∨X.s₀.heap.objs.size≤b)∧b≠X.env.locals∧(∀ x c,X.env.cells.lookup x=some c→c≠b) ∧ ∀ p ∈ X.pn++pins,p.1≠b):Inv X pins σ H' s':=by
 obtain ⟨h',g',d',t',o'⟩:=s'
 have e:o'=s.os:=ho
 subst e
 exact I.call (g':=g') (t':=t') (d':=d') u hok hg hch
end
abbrev XK:=Value→Option Addr→Hp→Prop
abbrev St:=List (Option V)
abbrev VK:=V→Hp→Prop
abbrev TE:=St→Hp→VK→Prop
abbrev TT:=St→Hp→(Bool→Hp→Prop)→Prop
abbrev TA:=St→Hp→(List V→Hp→Prop)→Prop
structure Ends where
 nx:St→Hp→Prop
 rt:VK
 bk:St→Hp→Prop:=fun _ _=>False
 ct:St→Hp→Prop:=fun _ _=>False
abbrev TS:=Ends→St→Hp→Prop
def EP (X:Cx) (pins:List (Addr × Obj)) (σ:St) (Q:VK) (u:Value) (s':Shared):Prop:=∃ v H',Inv X pins σ H' s'∧RelV v u∧Q v H'
def TP (X:Cx) (pins:List (Addr × Obj)) (σ:St) (Q:Bool→Hp→Prop) (b:Bool) (s':Shared):Prop:=∃ H',Inv X pins σ H' s'∧Q b H'
def AP (X:Cx) (pins:List (Addr × Obj)) (σ:St) (Q:List V→Hp→Prop) (us:List Value) (s':Shared):Prop:=∃ vs H',Inv X pins σ H' s'∧Vals vs us∧Q vs H'
def SP (X:Cx) (pins:List (Addr × Obj)) (D:Ends) (f:Flow) (s':Shared):Prop:=
 match f with
 | .next=>∃ σ' H',Inv X pins σ' H' s'∧D.nx σ' H'
 | .brk=>∃ σ' H',Inv X pins σ' H' s'∧D.bk σ' H'
 | .cont=>∃ σ' H',Inv X pins σ' H' s'∧D.ct σ' H'
 | .ret u=>∃ v σ' H',Inv X pins σ' H' s'∧RelV v u∧D.rt v H'
def PE (X:Cx) (e:Expr) (t:TE):Prop:=
 ∀ (pins:List (Addr × Obj)) (s:Shared) (σ:St) (H:Hp) (Q:VK),Inv X pins σ H s→t σ H Q→wpAny (model X.prog X.w) X.A (eval e X.env) (EP X pins σ Q) X.xe s
def PT (X:Cx) (e:Expr) (t:TT):Prop:=
 ∀ (pins:List (Addr × Obj)) (s:Shared) (σ:St) (H:Hp) (Q:Bool→Hp→Prop),Inv X pins σ H s→t σ H Q→wpAny (model X.prog X.w) X.A (isTrue e X.env (eval e X.env)) (TP X pins σ Q) X.xe s
def PW (X:Cx) (e:Expr) (t:TT):Prop:=
 ∀ (whole:Sem Value) (pins:List (Addr × Obj)) (s:Shared) (σ:St) (H:Hp) (Q:Bool→Hp→Prop),Inv X pins σ H s→t σ H Q→wpAny (model X.prog X.w) X.A (isTrue e X.env whole) (TP X pins σ Q) X.xe s
theorem PW.pt {X:Cx} {e:Expr} {t:TT} (h:PW X e t):PT X e t:=h _
def PA (X:Cx) (es:List Expr) (t:TA):Prop:=
 ∀ (pos:Pos) (pins:List (Addr × Obj)) (s:Shared) (σ:St) (H:Hp) (Q:List V→Hp→Prop),Inv X pins σ H s→t σ H Q→wpAny (model X.prog X.w) X.A (spliced (backTo pos (starEach es X.env))) (AP X pins σ Q) X.xe s
def PS (X:Cx) (st:Stmt) (t:TS):Prop:=
 ∀ (pins:List (Addr × Obj)) (s:Shared) (σ:St) (H:Hp) (D:Ends),Inv X pins σ H s→t D σ H→wpAny (model X.prog X.w) X.A (exec st X.env) (SP X pins D) X.xe s
def PSs (X:Cx) (st:List Stmt) (t:TS):Prop:=
 ∀ (pins:List (Addr × Obj)) (s:Shared) (σ:St) (H:Hp) (D:Ends),Inv X pins σ H s→t D σ H→wpAny (model X.prog X.w) X.A (execs st X.env) (SP X pins D) X.xe s
theorem thn {α:Type} {t:Sem α} {Q Q':α→Shared→Prop} {M:Model} {A:Around} {E:Value→Shared→Prop} {s:Shared} (h:wpAny M A t Q E s) (hQ : ∀ a s,Q a s→Q' a s):wpAny M A t Q' E s:=wpAny_mono h hQ fun _ _ x=>x
section
variable {X : Cx}
theorem bin {a b:Expr} {ta tb:TE} (ha:PE X a ta) (hb:PE X b tb) {pins:List (Addr × Obj)} {s:Shared} {σ:St} {H:Hp} {R:V→V→Hp→Prop} (I:Inv X pins σ H s) (h:ta σ H fun x H1=>tb σ H1 fun y H2=>R x y H2)
  {α:Type} {Q:α→Shared→Prop} {f:Value→Value→Sem α}
  (hf : ∀ v u s2 x y H2,Inv X pins σ H2 s2→RelV x v→RelV y u→R x y H2→wpAny (model X.prog X.w) X.A (f v u) Q X.xe s2) :
  wpAny (model X.prog X.w) X.A (eval a X.env) (fun v s₁=>wpAny (model X.prog X.w) X.A (eval b X.env) (fun u s₂=>wpAny (model X.prog X.w) X.A (f v u) Q X.xe s₂) X.xe s₁) X.xe s:=by
 refine thn (ha pins s σ H _ I h) fun v s1 ⟨x,H1,I1,r1,q1⟩=>?_
 refine thn (hb pins s1 σ H1 _ I1 q1) fun u s2 ⟨y,H2,I2,r2,q2⟩=>?_
 exact hf v u s2 x y H2 I2 r1 r2 q2
def tVar (i:Nat):TE:=fun σ H Q=>∃ v,σ[i]? = some (some v)∧Q v H
def tC (v:V):TE:=fun _ H Q=>Q v H
theorem zU4 {i:Nat} {x:Str} {pos:Pos} (hN:X.N[i]? = some x) (hv:Vis X.env.scope x) (hd:(x == ("__debug__" : Str))=false:=by decide) (hcd:(x == ("__classdict__" : Str))=false:=by decide):PE X (.Name x pos) (tVar i):=by
 intro pins s σ H Q I h
 obtain ⟨v,e,h⟩:=h
 obtain ⟨m,hn,hl⟩:=I.loc
 obtain ⟨u,r,l⟩:=hl i x v hN e hv
 have fin:EP X pins σ Q u s:=⟨v,H,I,r,h⟩
 rcases l with ⟨hk,hm⟩ | ⟨hk,c,hc,hcell⟩
 ·exact wpAny_Name (wpAny_loadName_local I.ok.kind hk hn hm fin) hd
 ·rcases hk with hk | hk
  ·exact wpAny_Name (wpAny_loadName_cell I.ok.kind hk hc hcell fin) hd
  ·exact wpAny_Name (wpAny_loadName_free I.ok.kind hk hc hcell fin hcd) hd
theorem zAG {i j pos}:PE X (.Constant (.int i) j pos) (tC (.int i)):=fun _ _ _ H _ I h=>wpAny_Constant_int ⟨.int i,H,I.tok _,⟨_,rfl⟩,h⟩
theorem zHt {b j pos}:PE X (.Constant (.bool b) j pos) (tC (.bl b)):=fun _ _ _ H _ I h=>Constant_bool ⟨.bl b,H,I,rfl,h⟩
theorem zI5 {j pos}:PE X (.Constant .none j pos) (tC .non):=fun _ _ _ H _ I h=>Constant_none ⟨.non,H,I,rfl,h⟩
theorem zAe {x j pos}:PE X (.Constant (.str x) j pos) (tC (.str x)):=fun _ _ _ H _ I h=>Calls.Constant_str ⟨.str x,H,I.tok _,⟨_,rfl⟩,h⟩
def Gl (X:Cx) (x:Str):Prop:=X.env.kindOf x=some .globalImplicit
theorem zCq {E:Value→Shared→Prop} {pins:List (Addr × Obj)} {s:Shared} {σ:St} {H:Hp} {x:Str} {u:Value} {pos:Pos} {Q:Value→Shared→Prop} (I:Inv X pins σ H s) (hg:Gl X x) (hm:X.mg x=some u) (h:Q u s)
  (hd:(x == ("__debug__" : Str))=false:=by decide):wpAny (model X.prog X.w) X.A (eval (.Name x pos) X.env) Q E s:=
 Calls.Name_function_global I.ok.kind hg (Calls.loadGlobal_global (by rw [I.ok.glob];exact I.mod.glob.keeps I.bk) hm h) hd
theorem zLX {E:Value→Shared→Prop} {pins:List (Addr × Obj)} {s:Shared} {σ:St} {H:Hp} {x:Str} {u:Value} {pos:Pos} {Q:Value→Shared→Prop} (I:Inv X pins σ H s) (hg:Gl X x) (hm:X.mg x=none) (hv:bootBuiltins x=some u) (h:Q u s)
  (hn:x ≠ "__name__" := by decide) (hd:(x == ("__debug__" : Str))=false:=by decide):wpAny (model X.prog X.w) X.A (eval (.Name x pos) X.env) Q E s:=by
 obtain ⟨mb,h1,h2⟩:=I.mod.blt
 exact Calls.Name_function_global I.ok.kind hg (Calls.loadGlobal_builtin (by rw [I.ok.glob];exact I.mod.glob.keeps I.bk) hm (by rw [I.ok.blt];exact h1.keeps I.bk) ((h2 x hn).trans hv) h) hd
theorem zDK {x:Str} {v:V} {u:Value} {pos:Pos} (hg:Gl X x) (hm:X.mg x=some u) (r:RelV v u) (hd:(x == ("__debug__" : Str))=false:=by decide):PE X (.Name x pos) (tC v):=
 fun _ _ _ H _ I h=>zCq I hg hm ⟨v,H,I,r,h⟩ hd
theorem zGJ {x:Str} {v:V} {u:Value} {pos:Pos} (hg:Gl X x) (hm:X.mg x=none) (hv:bootBuiltins x=some u) (r:RelV v u) (hn:x ≠ "__name__" := by decide) (hd:(x == ("__debug__" : Str))=false:=by decide):PE X (.Name x pos) (tC v):=
 fun _ _ _ H _ I h=>zLX I hg hm hv ⟨v,H,I,r,h⟩ hn hd
variable {a b : Expr} {ta tb : TE} {pos : Pos}
def PC (X:Cx) (op:CmpOp) (a b:Expr) (t:TE):Prop:=
 ∀ (pins:List (Addr × Obj)) (s:Shared) (σ:St) (H:Hp) (Q:VK),Inv X pins σ H s→t σ H Q →
  wpAny (model X.prog X.w) X.A (eval a X.env) (fun v s₁=>wpAny (model X.prog X.w) X.A (eval b X.env) (fun u s₂=>wpAny (model X.prog X.w) X.A (compareOp op v u) (EP X pins σ Q) X.xe s₂) X.xe s₁) X.xe s
theorem zRY (b:Expr) {op:CmpOp} (h:op ≠ .In) (h2:op ≠ .NotIn):behindInMarks op b=false:=by
 have e1:(op == CmpOp.In)=false:=by cases op <;> first | rfl | exact absurd rfl h
 have e2:(op == CmpOp.NotIn)=false:=by cases op <;> first | rfl | exact absurd rfl h2
 cases b <;> simp [behindInMarks,e1,e2]
def tB (t:TE):TT:=fun σ H Q=>t σ H fun x H1=>∃ c,x = .bl c∧Q c H1
theorem zXV {op:CmpOp} {t:TE} (h:PC X op a b t) (h1:behindInMarks op b=false:=by first | exact zRY _ (by decide) (by decide) | rfl):PT X (.Compare a [op] [b] pos) (tB t):=by
 intro pins s σ H Q I hw
 refine wpAny_isTrue_Compare1 (thn (h pins s σ H _ I hw) fun v s1 h1=>thn h1 fun u s2 h2=>thn h2 fun c s3 ⟨x,H1,I1,r1,q1⟩=>?_) h1
 obtain ⟨d,rfl,q⟩:=q1
 cases r1
 exact wpAny_truthy_bool ⟨H1,I1,q⟩
theorem zB2 {e:Expr} {t:TE} (h:PE X e t) (he : ∀ whole,isTrue e X.env whole=(do let v ← whole;standAt e.pos;holding [v] (truthy v)):=by intro _;rfl):PT X e (tB t):=by
 intro pins s σ H Q I hw
 refine isTrue_plain (thn (h pins s σ H _ I hw) fun v s1 ⟨x,H1,I1,r1,q1⟩=>?_) (he _)
 obtain ⟨d,rfl,q⟩:=q1
 cases r1
 exact wpAny_truthy_bool ⟨H1,I1,q⟩
variable {tA tB' : TT} {rest : List Expr}
def tAnd (t u:TT):TT:=fun σ H Q=>t σ H fun c H1=>if c=true then u σ H1 Q else Q false H1
def tOr (t u:TT):TT:=fun σ H Q=>t σ H fun c H1=>if c=true then Q true H1 else u σ H1 Q
def tNot (t:TT):TT:=fun σ H Q=>t σ H fun c H1=>Q (!c) H1
theorem zD4 (ha:PT X a tA):PW X (.BoolOp .And [a] pos) tA:=by
 intro wh pins s σ H Q I h
 refine isTrue_and (thn (ha pins s σ H Q I h) fun c s1 e=>?_)
 cases c with
 | true=>exact isTrue_and_nil e
 | false=>exact e
theorem zEw (ha:PT X a tA):PW X (.BoolOp .Or [a] pos) tA:=by
 intro wh pins s σ H Q I h
 refine isTrue_or (thn (ha pins s σ H Q I h) fun c s1 e=>?_)
 cases c with
 | false=>exact isTrue_or_nil e
 | true=>exact e
theorem zGR (ha:PT X a tA) (hb:PW X (.BoolOp .And (b::rest) pos) tB'):PW X (.BoolOp .And (a::b::rest) pos) (tAnd tA tB'):=by
 intro wh pins s σ H Q I h
 refine isTrue_and (thn (ha pins s σ H _ I h) fun c s1 ⟨H1,I1,q1⟩=>?_)
 cases c with
 | true=>exact hb wh pins s1 σ H1 Q I1 q1
 | false=>exact ⟨H1,I1,q1⟩
theorem zHQ (ha:PT X a tA) (hb:PW X (.BoolOp .Or (b::rest) pos) tB'):PW X (.BoolOp .Or (a::b::rest) pos) (tOr tA tB'):=by
 intro wh pins s σ H Q I h
 refine isTrue_or (thn (ha pins s σ H _ I h) fun c s1 ⟨H1,I1,q1⟩=>?_)
 cases c with
 | true=>exact ⟨H1,I1,q1⟩
 | false=>exact hb wh pins s1 σ H1 Q I1 q1
theorem zCo (ha:PT X a tA):PT X (.UnaryOp .Not a pos) (tNot tA):=by
 intro pins s σ H Q I h
 exact isTrue_not (ha pins s σ H (fun c H1=>Q (!c) H1) I h)
def zUu (ta tb:TE):TE:=fun σ H Q=>ta σ H fun x H1=>∃ c,x = .bl c∧if c=true then tb σ H1 Q else Q (.bl false) H1
def tOrV (ta tb:TE):TE:=fun σ H Q=>ta σ H fun x H1=>∃ c,x = .bl c∧if c=true then Q (.bl true) H1 else tb σ H1 Q
def zV9 (ta:TE):TE:=fun σ H Q=>ta σ H fun x H1=>∃ c,x = .bl c∧Q (.bl (!c)) H1
theorem zJ2 {op} {t:TE} (h:PE X a t):PE X (.BoolOp op [a] pos) t:=fun pins s σ H Q I hw=>BoolOp_one (h pins s σ H Q I hw)
theorem zJk (ha:PE X a ta) (hb:PE X (.BoolOp .And (b::rest) pos) tb):PE X (.BoolOp .And (a::b::rest) pos) (zUu ta tb):=by
 intro pins s σ H Q I h
 refine BoolOp_and (thn (ha pins s σ H _ I h) fun v s1 ⟨x,H1,I1,r1,q1⟩=>?_)
 obtain ⟨c,rfl,q1⟩:=q1
 cases r1
 refine wpAny_truthy_bool ?_
 cases c with
 | true=>exact hb pins s1 σ H1 Q I1 q1
 | false=>exact ⟨.bl false,H1,I1,rfl,q1⟩
theorem zXF (ha:PE X a ta) (hb:PE X (.BoolOp .Or (b::rest) pos) tb):PE X (.BoolOp .Or (a::b::rest) pos) (tOrV ta tb):=by
 intro pins s σ H Q I h
 refine BoolOp_or (thn (ha pins s σ H _ I h) fun v s1 ⟨x,H1,I1,r1,q1⟩=>?_)
 obtain ⟨c,rfl,q1⟩:=q1
 cases r1
 refine wpAny_truthy_bool ?_
 cases c with
 | false=>exact hb pins s1 σ H1 Q I1 q1
 | true=>exact ⟨.bl true,H1,I1,rfl,q1⟩
theorem zSz (ha:PE X a ta):PE X (.UnaryOp .Not a pos) (zV9 ta):=by
 intro pins s σ H Q I h
 refine UnaryOp_ (thn (ha pins s σ H _ I h) fun v s1 ⟨x,H1,I1,r1,q1⟩=>?_)
 obtain ⟨c,rfl,q1⟩:=q1
 cases r1
 exact not_of (wpAny_truthy_bool ⟨.bl (!c),H1,I1,rfl,q1⟩)
def tIf (t:TT) (ta tb:TE):TE:=fun σ H Q=>t σ H fun c H1=>if c=true then ta σ H1 Q else tb σ H1 Q
theorem zN5 {c:Expr} (hc:PT X c tA) (ha:PE X a ta) (hb:PE X b tb):PE X (.IfExp c a b pos) (tIf tA ta tb):=by
 intro pins s σ H Q I h
 refine wpAny_IfExp (thn (hc pins s σ H _ I h) fun d s1 ⟨H1,I1,q1⟩=>?_)
 cases d with
 | true=>exact ha pins s1 σ H1 Q I1 q1
 | false=>exact hb pins s1 σ H1 Q I1 q1
end
def SqL (K:W.Frag) (H:Hp) (a:Addr) (xs:List V):Prop:=
 Rd H a (.lst xs) ∨
  ∃ (o:Obj) (its:Array Value) (n:Nat),K.lookup a=some o∧o.cls = .type "list" ∧ o.dict=none∧o.data = .seq its n∧its.size≤sizeLine∧Vals xs its.toList
def SqT (K:W.Frag) (H:Hp) (a:Addr) (xs:List V):Prop:=
 Rd H a (.tup xs) ∨
  ∃ (o:Obj) (its:Array Value) (n:Nat),K.lookup a=some o∧o.cls = .type "tuple" ∧ o.data = .seq its n∧its.size≤sizeLine∧Vals xs its.toList
def absV:Value→Option V
 | .none=>some .non
 | .bool b=>some (.bl b)
 | .int i _=>some (.int i)
 | .str x _=>some (.str x)
 | .bytes b _=>some (.byt b)
 | .float b _=>some (.flt b)
 | .ref a=>some (.ref a)
 | .type n=>some (.ty n)
 | _=>none
theorem RelV.abs {x:V} {u:Value} (r:RelV x u):absV u=some x:=by
 cases x with
 | non=>cases r;rfl
 | bl _=>cases r;rfl
 | int _=>obtain ⟨t,rfl⟩:=r;rfl
 | str _=>obtain ⟨t,rfl⟩:=r;rfl
 | byt _=>obtain ⟨t,rfl⟩:=r;rfl
 | flt _=>obtain ⟨t,rfl⟩:=r;rfl
 | ref _=>cases r;rfl
 | ty _=>cases r;rfl
theorem RelV.inj {x y:V} {u:Value} (r:RelV x u) (q:RelV y u):x=y:=Option.some.inj (r.abs.symm.trans q.abs)
theorem Vals.inj : ∀ {xs ys:List V} {us:List Value},Vals xs us→Vals ys us→xs=ys
 | _,_,_,.nil,.nil=>rfl
 | _,_,_,.cons r t,.cons r' t'=>by rw [r.inj r',Vals.inj t t']
section
variable {X : Cx} {pins : List (Addr × Obj)} {σ : St} {H : Hp} {s : Shared} {a : Addr} {xs ys : List V}
theorem SqL.of {K:W.Frag} (h:H a=some (.lst xs)):SqL K H a xs:=.inl (.inl h)
theorem SqT.of {K:W.Frag} (h:H a=some (.tup xs)):SqT K H a xs:=.inl (.inl h)
theorem Inv.list (I:Inv X pins σ H s) (h:SqL X.K H a xs) : ∃ its:List Value,Vals xs its∧PlainL s.heap a its.toArray∧xs.length≤sizeLine:=by
 rcases h with h | ⟨o,its,n,hk,hc,hd,hs,hz,r⟩
 ·obtain ⟨z,its,n,r,e⟩:=h.ok I.hok
  exact ⟨its,r,⟨_,n,e,rfl,rfl,rfl⟩,z⟩
 ·refine ⟨its.toList,r,⟨o,n,I.kIn a o hk,hc,hd,by simpa using hs⟩,?_⟩
  have e:=r.length
  simp only [Array.length_toList] at e
  omega
theorem Inv.tuple (I:Inv X pins σ H s) (h:SqT X.K H a xs) : ∃ its:List Value,Vals xs its∧IsTup s.heap a its.toArray∧xs.length≤sizeLine:=by
 rcases h with h | ⟨o,its,n,hk,hc,hs,hz,r⟩
 ·obtain ⟨z,its,r,p⟩:=h.ok I.hok
  exact ⟨its,r,p,z⟩
 ·refine ⟨its.toList,r,⟨o,I.kIn a o hk,hc,n,by simpa using hs⟩,?_⟩
  have e:=r.length
  simp only [Array.length_toList] at e
  omega
theorem Inv.list_inj (I:Inv X pins σ H s) (h:SqL X.K H a xs) (h':SqL X.K H a ys):xs=ys:=by
 obtain ⟨its,r,⟨o,n,e,_,_,d⟩,_⟩:=I.list h
 obtain ⟨its',r',⟨o',n',e',_,_,d'⟩,_⟩:=I.list h'
 rw [e] at e';cases e'
 rw [d] at d'
 injection d' with d1 _
 have:its=its':=by simpa using congrArg Array.toList d1
 subst this
 exact r.inj r'
theorem Inv.tuple_inj (I:Inv X pins σ H s) (h:SqT X.K H a xs) (h':SqT X.K H a ys):xs=ys:=by
 obtain ⟨its,r,⟨o,e,_,n,d⟩,_⟩:=I.tuple h
 obtain ⟨its',r',⟨o',e',_,n',d'⟩,_⟩:=I.tuple h'
 rw [e] at e';cases e'
 rw [d] at d'
 injection d' with d1 _
 have:its=its':=by simpa using congrArg Array.toList d1
 subst this
 exact r.inj r'
end
abbrev Cx.wish (X:Cx) (E:Value→Shared→Prop):Cx:={ X with xe:=E }
abbrev Cx.nox (X:Cx):Cx:=X.wish fun _ _=>False
theorem Cx.Ok.wish {X:Cx} (ok:X.Ok) (E:Value→Shared→Prop):(X.wish E).Ok:=
 ⟨ok.mod,ok.kind,ok.glob,ok.blt,ok.above,ok.inj,ok.has,ok.cab,ok.hd,ok.frames,ok.stk,ok.exf,ok.bs,ok.bsz,ok.noex,ok.exfs,ok.funs,ok.frf⟩
theorem Cx.Ok.unwish {X:Cx} {E:Value→Shared→Prop} (ok:(X.wish E).Ok):X.Ok:=
 ⟨ok.mod,ok.kind,ok.glob,ok.blt,ok.above,ok.inj,ok.has,ok.cab,ok.hd,ok.frames,ok.stk,ok.exf,ok.bs,ok.bsz,ok.noex,ok.exfs,ok.funs,ok.frf⟩
section
variable {X : Cx} {pins : List (Addr × Obj)} {σ : St} {H : Hp} {s : Shared} {E : Value → Shared → Prop}
theorem Inv.wish (I:Inv X pins σ H s) (E:Value→Shared→Prop):Inv (X.wish E) pins σ H s:=⟨I.ok.wish E,I.os,I.bare,I.base,I.loc,I.cell,I.free,I.freeC,I.pin,I.hok,I.len⟩
theorem Inv.unwish (I:Inv (X.wish E) pins σ H s):Inv X pins σ H s:=⟨I.ok.unwish,I.os,I.bare,I.base,I.loc,I.cell,I.free,I.freeC,I.pin,I.hok,I.len⟩
theorem SP.unwish {D:Ends} {f:Flow} {s':Shared} (h:SP (X.wish E) pins D f s'):SP X pins D f s':=by
 cases f with
 | next=>obtain ⟨σ',H',I,q⟩:=h;exact ⟨σ',H',I.unwish,q⟩
 | brk=>obtain ⟨σ',H',I,q⟩:=h;exact ⟨σ',H',I.unwish,q⟩
 | cont=>obtain ⟨σ',H',I,q⟩:=h;exact ⟨σ',H',I.unwish,q⟩
 | ret u=>obtain ⟨v,σ',H',I,r,q⟩:=h;exact ⟨v,σ',H',I.unwish,r,q⟩
theorem PE.nox {e:Expr} {t:TE} (h:PE X.nox e t):PE X e t:=fun pins s σ H Q I hw =>
 wpAny_mono (h pins s σ H Q (I.wish _) hw) (fun _ _ ⟨v,H',I',r,q⟩=>⟨v,H',I'.unwish,r,q⟩) fun _ _ z=>False.elim z
theorem PT.nox {e:Expr} {t:TT} (h:PT X.nox e t):PT X e t:=fun pins s σ H Q I hw =>
 wpAny_mono (h pins s σ H Q (I.wish _) hw) (fun _ _ ⟨H',I',q⟩=>⟨H',I'.unwish,q⟩) fun _ _ z=>False.elim z
theorem PSs.nox {st:List Stmt} {t:TS} (h:PSs X.nox st t):PSs X st t:=fun pins s σ H D I hw =>
 wpAny_mono (h pins s σ H D (I.wish _) hw) (fun _ _ q=>q.unwish) fun _ _ z=>False.elim z
end
section
variable {X : Cx} {st : Stmt} {rest : List Stmt} {t u : TS} {e : Expr} {te : TE} {pos : Pos}
def zU0:TS:=fun D σ H=>D.nx σ H
def tSeq (t u:TS):TS:=fun D σ H=>t { D with nx:=u D } σ H
theorem zAW:PSs X [] zU0:=fun _ _ σ H _ I h=>wpAny_execs_nil ⟨σ,H,I,h⟩
theorem zAE (h1 : PS X st t) (h2 : PSs X rest u) : PSs X (st :: rest) (tSeq t u) := by
  intro pins s σ H D I h
  refine wpAny_execs_cons (thn (h1 pins s σ H { D with nx := u D } I h) fun f s1 q => ?_)
  cases f with
  | next =>
    obtain ⟨σ', H', I', q⟩ := q
    exact h2 pins s1 σ' H' D I' q
  | ret v => exact q
  | brk => exact q
  | cont => exact q
theorem zAI (h1:PS X st t):PSs X [st] t:=by
 intro pins s σ H D I h
 refine wpAny_execs_cons (thn (h1 pins s σ H D I h) fun f s1 q=>?_)
 cases f with
 | next=>exact wpAny_execs_nil q
 | ret v=>exact q
 | brk=>exact q
 | cont=>exact q
theorem Inv.quiet {pins:List (Addr × Obj)} {σ:St} {H:Hp} {s:Shared} (I:Inv X pins σ H s):interactive X.env=false:=by simp [interactive,I.ok.kind]
def zU6 (te:TE):TS:=fun D σ H=>te σ H fun _ H1=>D.nx σ H1
theorem zFL (he:PE X e te) (hs:swapsWith e none pos.line X.env=pure false:=by rfl):PS X (.Expr e pos) (zU6 te):=by
 intro pins s σ H D I h
 exact wpAny_Expr_any (thn (he pins s σ H _ I h) fun v s1 ⟨x,H1,I1,r1,q1⟩=>⟨σ,H1,I1,q1⟩) I.quiet hs
def tRet (te:TE):TS:=fun D σ H=>te σ H D.rt
theorem zAQ (he:PE X e te):PS X (.Return (some e) pos) (tRet te):=by
 intro pins s σ H D I h
 exact wpAny_Return_some (thn (he pins s σ H _ I h) fun v s1 ⟨x,H1,I1,r1,q1⟩=>⟨x,σ,H1,I1,r1,q1⟩)
def tIfS (c:TT) (t u:TS):TS:=fun D σ H=>c σ H fun b H1=>if b=true then t D σ H1 else u D σ H1
theorem zBC {c:Expr} {a b:List Stmt} {tc:TT} (hc:PT X c tc) (ha:PSs X a t) (hb:PSs X b u):PS X (.If c a b pos) (tIfS tc t u):=by
 intro pins s σ H D I h
 refine wpAny_If (thn (hc pins s σ H _ I h) fun d s1 ⟨H1,I1,q1⟩=>?_)
 cases d with
 | true=>exact ha pins s1 σ H1 D I1 q1
 | false=>exact hb pins s1 σ H1 D I1 q1
def zVG:TS:=fun _ _ _=>False
theorem zG0:PS X st zVG:=fun _ _ _ _ _ _ h=>h.elim
end
abbrev TG:=V→St→Hp→(St→Hp→Prop)→Prop
abbrev TGs:=List V→St→Hp→(St→Hp→Prop)→Prop
def PG (X:Cx) (target:Expr) (t:TG):Prop:=
 ∀ (pins:List (Addr × Obj)) (s:Shared) (σ:St) (H:Hp) (v:V) (u:Value) (Q:St→Hp→Prop),Inv X pins σ H s→RelV v u→t v σ H Q →
  wpAny (model X.prog X.w) X.A (assign target X.env u) (fun _ s'=>∃ σ' H',Inv X pins σ' H' s'∧Q σ' H') X.xe s
def PGs (X:Cx) (ts:List Expr) (t:TGs):Prop:=
 ∀ (pins:List (Addr × Obj)) (s:Shared) (σ:St) (H:Hp) (vs:List V) (us:List Value) (Q:St→Hp→Prop),Inv X pins σ H s→Vals vs us→t vs σ H Q →
  wpAny (model X.prog X.w) X.A (assignInOrder ((assignEach ts X.env).map (·.2)) us) (fun _ s'=>∃ σ' H',Inv X pins σ' H' s'∧Q σ' H') X.xe s
section
variable {X : Cx} {pos : Pos}
def zRd (i:Nat):TG:=fun v σ H Q=>Q (σ.set i (some v)) H
theorem zBX {i:Nat} {x:Str} (hN:X.N.Nodup) (hi:X.N[i]? = some x) (hx:Loc X.env.scope x) (hf:X.fn x=true∨X.env.scope.names.lookup x=some .local:=by first | exact .inl rfl | exact .inr rfl | assumption):PG X (.Name x pos) (zRd i):=by
 intro pins s σ H v u Q I r h
 exact wpAny_assign_Name (zFq I hN hi hx r (fun s' I'=>⟨_,H,I',h⟩) hf)
def gNil:TGs:=fun vs σ H Q=>vs=[]∧Q σ H
def zU1 (t:TG) (u:TGs):TGs:=fun vs σ H Q=>∃ v r,vs=v::r∧t v σ H fun σ' H'=>u r σ' H' Q
theorem zJa:PGs X [] gNil:=by
 intro pins s σ H vs us Q I r h
 obtain ⟨e,h⟩:=h
 subst e
 cases r
 exact assignInOrder_nil ⟨σ,H,I,h⟩
theorem zBh {e : Expr} {es : List Expr} {t : TG} {u : TGs} (h1 : PG X e t) (h2 : PGs X es u)
    (hs : (assignEach (e :: es) X.env).map (·.2) = assign e X.env :: (assignEach es X.env).map (·.2) := by rfl) : PGs X (e :: es) (zU1 t u) := by
  intro pins s σ H vs us Q I r h
  obtain ⟨v, vr, e1, h⟩ := h
  subst e1
  cases r with
  | cons r rr =>
    rw [hs]
    refine assignInOrder_cons (thn (h1 pins s σ H _ _ _ I r h) fun _ s1 ⟨σ1, H1, I1, q1⟩ => ?_)
    exact h2 pins s1 σ1 H1 _ _ Q I1 rr q1
def gTup (K:W.Frag) (n:Nat) (t:TGs):TG:=fun v σ H Q=>∃ a xs,v = .ref a∧SqT K H a xs∧xs.length=n∧t xs σ H Q
theorem zME {es:List Expr} {k:Nat} {t:TGs} {n:Nat} (hc:X.calm=true) (h:PGs X es t)
  (hn:(assignEach es X.env).length=n:=by rfl) (hst:(assignEach es X.env).findIdx? (·.1)=none:=by rfl):PG X (.Tuple es k pos) (gTup X.K n t):=by
 intro pins s σ H v u Q I r hw
 obtain ⟨a,xs,e1,hq,hl,hw⟩:=hw
 subst e1
 cases r
 obtain ⟨its,rv,ht,hz⟩:=I.tuple hq
 refine assign_Tuple_tuple (I.ok.hd hc) ht (by simp [hn,← hl,rv.length]) hst fun h' hx=>?_
 have I1:Inv X pins σ H { s with heap:=h' }:=I.kept (t':=s.toks) fun b o e=>hx b o (Nat.ne_of_lt (Heap.lt_size e)) e
 exact h pins _ σ H xs _ Q I1 (by simpa using rv) hw
def tAsg (te:TE) (g:TG):TS:=fun D σ H=>te σ H fun x H1=>g x σ H1 D.nx
theorem zLu {tg e:Expr} {te:TE} {g:TG} (he:PE X e te) (hg:PG X tg g) (hs:swapsWithSole [tg] e pos.line X.env=pure false:=by rfl) (hw:swappedStores [tg] e X.env=pure none:=by rfl)
  (h1:(assignEach [tg] X.env).map (·.2)=[assign tg X.env]:=by rfl):PS X (.Assign [tg] e pos) (tAsg te g):=by
 intro pins s σ H D I h
 refine wpAny_Assign_stores (thn (he pins s σ H _ I h) fun v s1 ⟨x,H1,I1,r1,q1⟩=>?_) hs hw
 rw [h1]
 exact thn (hg pins s1 σ H1 x v _ I1 r1 q1) fun _ s2 q=>q
theorem zAP {i:Nat} {x:Str} {e:Expr} {te:TE} {pos':Pos} (hN:X.N.Nodup) (hi:X.N[i]? = some x) (hx:Loc X.env.scope x) (he:PE X e te) (hs:swapsWith e (some (.Name x pos')) pos.line X.env=pure false:=by rfl) (hf:X.fn x=true∨X.env.scope.names.lookup x=some .local:=by first | exact .inl rfl | exact .inr rfl | assumption) :
  PS X (.Assign [.Name x pos'] e pos) (tAsg te (zRd i)):=by
 intro pins s σ H D I h
 refine wpAny_Assign_Name (thn (he pins s σ H _ I h) fun v s1 ⟨y,H1,I1,r1,q1⟩=>?_) hs
 exact zFq I1 hN hi hx r1 (fun s2 I2=>⟨_,H1,I2,q1⟩) hf
def tPar (i j:Nat) (ta:TA):TS:=fun D σ H=>ta σ H fun vs H1=>∃ v w,vs=[v,w]∧D.nx ((σ.set i (some v)).set j (some w)) H1
theorem zSo {i j : Nat} {x y : Str} {a b : Expr} {ta : TA} {px py pt : Pos} {kt k2 pt2} (hc : X.calm = true) (hN : X.N.Nodup) (hi : X.N[i]? = some x) (hj : X.N[j]? = some y) (hij : i ≠ j)
    (hx : X.env.scope.names.lookup x = some .local) (hy : X.env.scope.names.lookup y = some .local) (ha : PA X [a, b] ta)
    (hw : swappedStores [.Tuple [.Name x px, .Name y py] kt pt] (.Tuple [a, b] k2 pt2) X.env = pure (some [x, y]))
    (hs : swapsWithSole [.Tuple [.Name x px, .Name y py] kt pt] (.Tuple [a, b] k2 pt2) pos.line X.env = pure false := by rfl) :
    PS X (.Assign [.Tuple [.Name x px, .Name y py] kt pt] (.Tuple [a, b] k2 pt2) pos) (tPar i j ta) := by
  intro pins s σ H D I h
  rw [exec_Assign_arm]
  refine wpAny_bind (wpAny_standAt ?_)
  rw [hs]
  refine wpAny_bind (wpAny_pure ?_)
  rw [if_neg (by decide)]
  refine wpAny_bind (Tuple_ (thn (ha _ pins s σ H _ I h) fun us s1 ⟨vs, H1, I1, r1, q1⟩ => ?_))
  obtain ⟨v, w, e1, q1⟩ := q1
  subst e1
  obtain ⟨u1, u2, rfl, rv, rw'⟩ : ∃ u1 u2, us = [u1, u2] ∧ RelV v u1 ∧ RelV w u2 := by
    cases r1 with
    | cons p q =>
      cases q with
      | cons p' q' =>
        cases q'
        exact ⟨_, _, rfl, p, p'⟩
  refine wpAny_newObj_type ?_ (by show 2 ≤ sizeLine; decide)
  have I2 : Inv X pins σ H1 { s1 with heap := s1.heap.push { cls := .type "tuple", data := .seq [u1, u2].toArray } } := I1.kept (t' := s1.toks) fun b o e => Heap.get?_push_of_some _ e
  rw [hw]
  refine wpAny_bind (wpAny_pure ?_)
  show wpAny (model X.prog X.w) X.A (do rule "assign.swapped-stores"; let items ← unpackItems (.ref s1.heap.objs.size) 2 none; assignInOrder [fun v => bindName X.env y v, fun v => bindName X.env x v] items.reverse; pure Flow.next) _ _ _
  refine wpAny_bind (wpAny_rule (wpAny_bind (unpackItems_tuple (items := #[u1, u2]) (I.ok.hd hc) (IsTup.new s1.heap _) fun h' hx' => ?_)))
  have I3 := I2.kept (h' := h') (t' := s1.toks) fun b o e => hx' b o (Nat.ne_of_lt (Heap.lt_size e)) e
  show wpAny _ _ (assignInOrder [fun v => bindName X.env y v, fun v => bindName X.env x v] [u2, u1] >>= fun _ => pure Flow.next) _ _ _
  refine wpAny_bind (assignInOrder_cons (wpAny_bindName (zFq I3 hN hj (.inl hy) rw' (fun s2 I4 => ?_) (.inr hy))))
  refine assignInOrder_cons (wpAny_bindName (zFq I4 hN hi (.inl hx) rv (fun s3 I5 => assignInOrder_nil (wpAny_pure ?_)) (.inr hx)))
  rw [List.set_comm _ _ (Ne.symm hij)] at I5
  exact ⟨_, H1, I5, q1⟩
end
section
variable {X : Cx} {pos : Pos}
def zS2 (c:TT) (tb:TS):TS:=fun D σ H=>∃ W:Nat→St→Hp→Prop,(∃ m,W m σ H) ∧ ∀ m σ H,W m σ H →
 c σ H fun b H1=>if b=true then ∃ N:St→Hp→Prop,(∀ σ' H',N σ' H' → ∃ m',m' < m∧W m' σ' H')∧tb { D with nx:=N,ct:=N,bk:=D.nx } σ H1 else D.nx σ H1
theorem zH6 {c : Expr} {body : List Stmt} {tc : TT} {tb : TS} (hp : PassesOwn (model X.prog X.w) X.A X.env X.xe) (hc : PT X c tc) (hb : PSs X body tb) : PS X (.While c body [] pos) (zS2 tc tb) := by
  intro pins s σ H D I h
  obtain ⟨W, ⟨m0, w0⟩, turn⟩ := h
  refine wpAny_While (codeAny_whileLoop (fun n s' => ∃ σ' H', Inv X pins σ' H' s' ∧ W n σ' H') ?_ m0 ⟨σ, H, I, w0⟩)
  rintro n s1 ⟨σ1, H1, I1, w1⟩
  refine wpAny_passesOwn hp (thn (hc pins s1 σ1 H1 _ I1 (turn n σ1 H1 w1)) fun b s2 ⟨H2, I2, q2⟩ => ?_)
  cases b with
  | true =>
    obtain ⟨N, hN, q2⟩ := q2
    rw [if_pos rfl]
    refine wpAny_passesOwn hp (thn (hb pins s2 σ1 H2 _ I2 q2) fun f s3 q3 => ?_)
    cases f with
    | next =>
      obtain ⟨σ3, H3, I3, n3⟩ := q3
      obtain ⟨m', hm, w3⟩ := hN σ3 H3 n3
      exact ⟨m', hm, σ3, H3, I3, w3⟩
    | cont =>
      obtain ⟨σ3, H3, I3, n3⟩ := q3
      obtain ⟨m', hm, w3⟩ := hN σ3 H3 n3
      exact ⟨m', hm, σ3, H3, I3, w3⟩
    | brk => exact q3
    | ret v => exact q3
  | false =>
    rw [if_neg Bool.false_ne_true]
    exact wpAny_execs_nil ⟨σ1, H2, I2, q2⟩
end
structure It where
 go:Nat→Hp→Prop
 yld:Nat→Hp→V→Hp→Prop
 stop:Nat→Hp→Prop
def FpOk (X:Cx) (pins:List (Addr × Obj)) (H:Hp) (b:Addr):Prop:=
 H b=none∧b≠X.env.locals∧b ∉ X.fs∧(b ∈ X.ex∨X.s₀.heap.objs.size≤b)∧(∀ x c,X.env.cells.lookup x=some c→c≠b) ∧ ∀ p ∈ X.pn++pins,p.1≠b
theorem Inv.fpOk {X:Cx} {pins:List (Addr × Obj)} {σ:St} {H H':Hp} {s:Shared} {b:Addr} (I:Inv X pins σ H s) (hb:s.heap.objs.size≤b) (hn:H' b=none):FpOk X pins H' b:=by
 refine ⟨hn,Nat.ne_of_gt (Nat.lt_of_lt_of_le I.lt hb),I.nofs hb,.inr (Nat.le_trans I.sz hb),fun x c e z=>?_,fun p hp z=>?_⟩
 ·obtain ⟨v,q⟩:=I.cell x c e
  exact absurd (Nat.lt_of_lt_of_le q.lt (by rw [z];exact hb)) (Nat.lt_irrefl _)
 ·exact absurd (Nat.lt_of_lt_of_le (Heap.lt_size (I.pin p hp).1) (by rw [z];exact hb)) (Nat.lt_irrefl _)
structure Turn (P:Program) (w:World) (K:W.Frag) (tg:Expr) (J:It) (fp:List Addr) (it:Addr) (tn:Nat→Heap→Prop):Prop where
 mem:it ∈ fp
 obj : ∀ i h,tn i h → ∀ b ∈ fp,∃ o,h.get? b=some o ∧ ∀ v,o.data ≠ .cell v
 keep : ∀ i h h',tn i h→(∀ b ∈ fp,∀ o,h.get? b=some o→h'.get? b=some o)→tn i h'
 item : ∀ (X:Cx),X.prog=P→X.w=w→X.K=K→X.calm=true → ∀ (i:Nat) (pins:List (Addr × Obj)) (s:Shared) (σ:St) (H:Hp) (E:Value→Shared→Prop),Inv X pins σ H s→(∀ b ∈ fp,FpOk X pins H b)→tn i s.heap→J.go i H →
  wpAny (model P w) X.A (pyNext (.ref it)) (fun r s1=>∃ u,r=some u ∧
   wpAny (model P w) X.A (letOwnedTupleGo tg (.ref it) u) (fun _ s2=>∃ x H',Inv X pins σ H' s2∧RelV x u∧J.yld i H x H'∧tn (i+1) s2.heap ∧ ∀ b ∈ fp,H' b=none) E s1) E s
 done : ∀ (X:Cx),X.prog=P→X.w=w→X.K=K→X.calm=true → ∀ (i:Nat) (pins:List (Addr × Obj)) (s:Shared) (σ:St) (H:Hp) (E:Value→Shared→Prop),Inv X pins σ H s→(∀ b ∈ fp,FpOk X pins H b)→tn i s.heap→J.stop i H →
  wpAny (model P w) X.A (pyNext (.ref it)) (fun r s1=>r=none∧Inv X pins σ H s1) E s
 self : ∀ (A:Around) (i:Nat) (s:Shared) (Q:Value→Shared→Prop) (E:Value→Shared→Prop),tn i s.heap→Q (.ref it) s→wpAny (model P w) A (pyIter (.ref it)) Q E s
abbrev TI:=St→Hp→(It→Hp→Prop)→Prop
def PIE (X:Cx) (pins:List (Addr × Obj)) (σ:St) (tg:Expr) (R:It→Hp→Prop) (itv:Value) (s2:Shared):Prop:=
 ∃ (it:Addr) (fp:List Addr) (tn:Nat→Heap→Prop) (J:It) (H':Hp),itv = .ref it∧Inv X pins σ H' s2∧Turn X.prog X.w X.K tg J fp it tn∧tn 0 s2.heap∧(∀ b ∈ fp,FpOk X pins H' b)∧R J H'
def PI (X:Cx) (tg iter:Expr) (wi:TI):Prop:=
 ∀ (pins:List (Addr × Obj)) (s:Shared) (σ:St) (H:Hp) (R:It→Hp→Prop),Inv X pins σ H s→wi σ H R →
  wpAny (model X.prog X.w) X.A (eval iter X.env) (fun v s1=>wpAny (model X.prog X.w) X.A (pyIter v) (PIE X pins σ tg R) X.xe s1) X.xe s
theorem zRE {M : Model} {A : Around} {E : Value → Shared → Prop} {s : Shared} {tg : Expr} {it : Addr} {u : Value} {o : Obj} {n : String} {vs : Array Value} {Q : Unit → Shared → Prop} (ho : s.heap.get? it = some o) (hc : o.cls = .type n) (hd : o.data = .fields vs)
    (hn : ["enumerate", "zip", "dict_itemiterator", "dict_reverseitemiterator", "odict_iterator", "itertools.zip_longest", "itertools.pairwise"].contains n = false) (hQ : Q () s) : wpAny M A (letOwnedTupleGo tg (.ref it) u) Q E s := by
  unfold letOwnedTupleGo
  cases tg <;> first
    | exact wpAny_pure hQ
    | (cases u <;> first
        | exact wpAny_pure hQ
        | (refine wpAny_bind (wpAny_load ho ?_)
           rw [hc, hd]
           show wpAny M A (if (["enumerate", "zip", "dict_itemiterator", "dict_reverseitemiterator", "odict_iterator", "itertools.zip_longest", "itertools.pairwise"].contains n && vs[0]? == some (rawInt _)) = true then _ else _) Q E s
           rw [if_neg (by intro h; rw [hn, Bool.false_and] at h; cases h)]
           exact wpAny_pure hQ))
def Itl (K:W.Frag) (a:Addr):It:=
 ⟨fun i H=>∃ xs x,SqL K H a xs∧xs[i]? = some x,fun i H x H'=>H'=H ∧ ∀ xs,SqL K H a xs→xs[i]? = some x,fun i H=>∃ xs,SqL K H a xs∧xs.length≤i⟩
def Itt (K:W.Frag) (a:Addr):It:=
 ⟨fun i H=>∃ xs x,SqT K H a xs∧xs[i]? = some x,fun i H x H'=>H'=H ∧ ∀ xs,SqT K H a xs→xs[i]? = some x,fun i H=>∃ xs,SqT K H a xs∧xs.length≤i⟩
def Itr (lo:Int) (n:Nat):It:=⟨fun i _=>i < n,fun i H x H'=>H'=H∧x = .int (lo+i),fun i _=>n≤i⟩
theorem zQv {P:Program} {w:World} {K:W.Frag} {tg:Expr} (a it:Addr):Turn P w K tg (Itl K a) [it] it (fun i h=>h.IsListIter it a i) where
 mem:=by simp
 obj:=fun i h st b hb=>by
  have e:b=it:=by simpa using hb
  subst e
  obtain ⟨o,e,c,d⟩:=st
  exact ⟨o,e,fun v z=>by rw [d] at z;cases z⟩
 keep:=fun i h h' st k=>st.at fun o e=>k it (by simp) o e
 item:=by
  intro X hP hw hK hc i pins s σ H E I hf st hg
  subst hP hw hK
  obtain ⟨xs,x,hq,hx⟩:=hg
  obtain ⟨its,rv,p,hz⟩:=I.list hq
  obtain ⟨u,hu,ru⟩:=rv.get hx
  obtain ⟨f0,f1,f2,f3,f4,f5⟩:=hf it (by simp)
  refine wpAny_pyNext_list_item st p.isList (x:=u) (by simpa using hu) fun h' st' sb=>?_
  have I1:Inv X pins σ H { s with heap:=h' }:=I.turned (t':=s.toks) (fun b o hb e=>(sb.2 b hb).trans e) f0 f1 f3 f4 f5
  obtain ⟨o,e,c,d⟩:=id st'
  exact ⟨u,rfl,zRE (s:={ s with heap:=h' }) e c d (by decide) ⟨x,H,I1,ru,⟨rfl,fun ys hy=>by rw [I.list_inj hy hq];exact hx⟩,st',fun b hb=>(hf b hb).1⟩⟩
 done:=by
  intro X hP hw hK hc i pins s σ H E I hf st hg
  subst hP hw hK
  obtain ⟨xs,hq,hx⟩:=hg
  obtain ⟨its,rv,p,hz⟩:=I.list hq
  obtain ⟨f0,f1,f2,f3,f4,f5⟩:=hf it (by simp)
  have hl:=rv.length
  exact wpAny_pyNext_list_end (I.ok.hd hc) st p.isList (by simp;omega) fun h' eb=>⟨rfl,I.turned (t':=s.toks) (fun b o hb e=>eb b o hb e) f0 f1 f3 f4 f5⟩
 self:=fun _ _ _ _ _ st h=>wpAny_pyIter_listiter st h
theorem zOU {P:Program} {w:World} {K:W.Frag} {tg:Expr} (a it:Addr):Turn P w K tg (Itt K a) [it] it (fun i h=>h.IsTupleIter it a i) where
 mem:=by simp
 obj:=fun i h st b hb=>by
  have e:b=it:=by simpa using hb
  subst e
  obtain ⟨o,e,c,d⟩:=st
  exact ⟨o,e,fun v z=>by rw [d] at z;cases z⟩
 keep:=fun i h h' st k=>st.at fun o e=>k it (by simp) o e
 item:=by
  intro X hP hw hK hc i pins s σ H E I hf st hg
  subst hP hw hK
  obtain ⟨xs,x,hq,hx⟩:=hg
  obtain ⟨its,rv,p,hz⟩:=I.tuple hq
  obtain ⟨u,hu,ru⟩:=rv.get hx
  obtain ⟨f0,f1,f2,f3,f4,f5⟩:=hf it (by simp)
  refine wpAny_pyNext_tuple_item st (show s.heap.IsTuple a its.toArray from p) (x:=u) (by simpa using hu) fun h' st' sb=>?_
  have I1:Inv X pins σ H { s with heap:=h' }:=I.turned (t':=s.toks) (fun b o hb e=>(sb.2 b hb).trans e) f0 f1 f3 f4 f5
  obtain ⟨o,e,c,d⟩:=id st'
  exact ⟨u,rfl,zRE (s:={ s with heap:=h' }) e c d (by decide) ⟨x,H,I1,ru,⟨rfl,fun ys hy=>by rw [I.tuple_inj hy hq];exact hx⟩,st',fun b hb=>(hf b hb).1⟩⟩
 done:=by
  intro X hP hw hK hc i pins s σ H E I hf st hg
  subst hP hw hK
  obtain ⟨xs,hq,hx⟩:=hg
  obtain ⟨its,rv,p,hz⟩:=I.tuple hq
  obtain ⟨f0,f1,f2,f3,f4,f5⟩:=hf it (by simp)
  have hl:=rv.length
  exact wpAny_pyNext_tuple_end (I.ok.hd hc) st (show s.heap.IsTuple a its.toArray from p) (by simp;omega) fun h' eb=>⟨rfl,I.turned (t':=s.toks) (fun b o hb e=>eb b o hb e) f0 f1 f3 f4 f5⟩
 self:=fun _ _ _ _ _ st h=>wpAny_pyIter_tupleiter st h
theorem zOp {P:Program} {w:World} {K:PySem.W.Frag} {tg:Expr} (it:Addr) (lo:Int) (n:Nat):Turn P w K tg (Itr lo n) [it] it (fun i h=>IsRangeIter h it (lo+(i:Nat)*1) ((n:Int) - (i:Nat)) 1) where
 mem:=by simp
 obj:=fun i h st b hb=>by
  have e:b=it:=by simpa using hb
  subst e
  exact ⟨_,st,fun v z=>by
   have z':Data.fields _=Data.cell v:=z
   cases z'⟩
 keep:=fun i h h' st k=>k it (by simp) _ st
 item:=by
  intro X hP hw hK hc i pins s σ H E I hf st hg
  subst hP hw hK
  obtain ⟨f0,f1,f2,f3,f4,f5⟩:=hf it (by simp)
  have W:=Walks.range (prog:=X.prog) (w:=X.w) (I.ok.hd hc) it lo 1 n
  refine W.item i s _ _ hg st fun v h' tk hv st' kk=>?_
  obtain ⟨t,rfl⟩:=hv
  have I1:Inv X pins σ H { s with heap:=h',toks:=tk }:=I.turned (fun b o hb e=>kk b o (by simpa using hb) e) f0 f1 f3 f4 f5
  refine ⟨_,rfl,zRE (s:={ s with heap:=h',toks:=tk }) (n:="range_iterator") st' rfl rfl (by decide) ⟨.int (lo+i),H,I1,⟨t,?_⟩,⟨rfl,rfl⟩,st',fun b hb=>(hf b hb).1⟩⟩
  rw [Int.mul_one]
 done:=by
  intro X hP hw hK hc i pins s σ H E I hf st hg
  subst hP hw hK
  obtain ⟨f0,f1,f2,f3,f4,f5⟩:=hf it (by simp)
  exact wpAny_pyNext_range_end (I.ok.hd hc) st (by have:n≤i:=hg;omega) fun h' eb=>⟨rfl,I.turned (t':=s.toks) (fun b o hb e=>eb b o hb e) f0 f1 f3 f4 f5⟩
 self:=fun _ _ _ _ _ st h=>wpAny_pyIter_rangeiter st h
section
variable {X : Cx} {tg : Expr}
def zVx (K:W.Frag) (tl:TE):TI:=fun σ H R=>tl σ H fun x H1=>∃ a,x = .ref a∧(∃ xs,SqL K H1 a xs)∧R (Itl K a) H1
def iTup (K:W.Frag) (tl:TE):TI:=fun σ H R=>tl σ H fun x H1=>∃ a,x = .ref a∧(∃ xs,SqT K H1 a xs)∧R (Itt K a) H1
theorem zGz {l:Expr} {tl:TE} (hl:PE X l tl):PI X tg l (zVx X.K tl):=by
 intro pins s σ H R I h
 refine thn (hl pins s σ H _ I h) fun v s1 ⟨x,H1,I1,r1,q1⟩=>?_
 obtain ⟨a,e,⟨xs,hq⟩,q⟩:=q1
 subst e
 cases r1
 obtain ⟨its,rv,p,hz⟩:=I1.list hq
 refine wpAny_pyIter_list p.isList ?_
 refine ⟨s1.heap.objs.size,[s1.heap.objs.size],_,_,H1,rfl,I1.kept (t':=s1.toks) fun b o e=>Heap.get?_push_of_some _ e,zQv a _,⟨_,Heap.get?_push_size _ rfl,rfl,rfl⟩,fun b hb=>?_,q⟩
 have e:b=s1.heap.objs.size:=by simpa using hb
 subst e
 exact I1.fpOk (Nat.le_refl _) (I1.hok.fresh (Nat.le_refl _))
theorem zWD {l:Expr} {tl:TE} (hl:PE X l tl):PI X tg l (iTup X.K tl):=by
 intro pins s σ H R I h
 refine thn (hl pins s σ H _ I h) fun v s1 ⟨x,H1,I1,r1,q1⟩=>?_
 obtain ⟨a,e,⟨xs,hq⟩,q⟩:=q1
 subst e
 cases r1
 obtain ⟨its,rv,p,hz⟩:=I1.tuple hq
 refine wpAny_pyIter_tuple (show s1.heap.IsTuple a its.toArray from p) ?_
 refine ⟨s1.heap.objs.size,[s1.heap.objs.size],_,_,H1,rfl,I1.kept (t':=s1.toks) fun b o e=>Heap.get?_push_of_some _ e,zOU a _,⟨_,Heap.get?_push_size _ rfl,rfl,rfl⟩,fun b hb=>?_,q⟩
 have e:b=s1.heap.objs.size:=by simpa using hb
 subst e
 exact I1.fpOk (Nat.le_refl _) (I1.hok.fresh (Nat.le_refl _))
theorem zN7 {pins:List (Addr × Obj)} {σ:St} {H:Hp} {s:Shared} {R:It→Hp→Prop} {E:Value→Shared→Prop} {lo hi:Int} {t u v:Tok} {tk:Nat} (I:Inv X pins σ H s) (h1 : -(2 ^ 62)≤lo) (h2:lo < 2 ^ 62) (h3 : -(2 ^ 62)≤hi) (h4:hi < 2 ^ 62)
  (q:R (Itr lo (hi - lo).toNat) H):wpAny (model X.prog X.w) X.A (pyIter (.ref s.heap.objs.size)) (PIE X pins σ tg R) E { s with heap:=s.heap.push { cls:=.type "range", data:=.fields #[.int lo t,.int hi u,.int 1 v] },toks:=tk }:=by
 refine wpAny_pyIter_range (IsRange.new ..) (small_one h1 h2 h3 h4) ?_
 have I1:Inv X pins σ H { s with heap:=s.heap.push { cls:=.type "range", data:=.fields #[.int lo t,.int hi u,.int 1 v] },toks:=tk }:=I.kept fun b o e=>Heap.get?_push_of_some _ e
 refine ⟨(s.heap.push { cls:=.type "range", data:=.fields #[.int lo t,.int hi u,.int 1 v] }).objs.size,[(s.heap.push { cls:=.type "range", data:=.fields #[.int lo t,.int hi u,.int 1 v] }).objs.size],_,_,H,rfl,
  I1.kept (t':=tk) fun b o e=>Heap.get?_push_of_some _ e,zOp _ lo (hi - lo).toNat,?_,fun b hb=>?_,q⟩
 ·have e1:lo+((0:Nat):Int)*1=lo:=by simp
  have e2:(((hi - lo).toNat:Nat):Int) - ((0:Nat):Int)=Builtin.Range.rangeSize lo hi 1:=by rw [rangeSize_one];split <;> omega
  show IsRangeIter _ _ (lo+((0:Nat):Int)*1) ((((hi - lo).toNat:Nat):Int) - ((0:Nat):Int)) 1
  rw [e1,e2]
  exact Heap.get?_push_size _ rfl
 ·have e:b=(s.heap.push { cls:=.type "range", data:=.fields #[.int lo t,.int hi u,.int 1 v] }).objs.size:=by simpa using hb
  subst e
  exact I1.fpOk (Nat.le_refl _) (I1.hok.fresh (Nat.le_refl _))
def zTV (ta:TA):TI:=fun σ H R=>ta σ H fun vs H1=>∃ j:Int,vs=[.int j] ∧ -(2 ^ 62)≤j∧j < 2 ^ 62∧R (Itr 0 j.toNat) H1
def zUo (ta:TA):TI:=fun σ H R=>ta σ H fun vs H1=>∃ i j:Int,vs=[.int i,.int j]∧(-(2 ^ 62)≤i∧i < 2 ^ 62 ∧ -(2 ^ 62)≤j∧j < 2 ^ 62)∧R (Itr i (j - i).toNat) H1
theorem zFP {a : Expr} {ta : TA} {p pos : Pos} (hg : Gl X "range") (hm : X.mg "range" = none) (ha : PA X [a] ta) (hs : starEach [a] X.env = [(false, eval a X.env)] := by rfl) : PI X tg (.Call (.Name "range" p) [a] [] pos) (zTV ta) := by
  intro pins s σ H R I h
  refine Call_ (zLX I hg hm boot_range (PyProof.Rows.callWith_type1 (thn (ha pos pins s σ H _ I h) fun us s1 ⟨vs, H1, I1, r1, q1⟩ => ?_) hs rfl))
  obtain ⟨j, e, q1, q2, q⟩ := q1
  subst e
  cases r1 with
  | cons r rr =>
    cases rr
    obtain ⟨t, rfl⟩ := r
    exact call_range_1 (zN7 I1 (by omega) (by omega) q1 q2 (by simpa using q))
theorem zLY {a b : Expr} {ta : TA} {p pos : Pos} (hg : Gl X "range") (hm : X.mg "range" = none) (ha : PA X [a, b] ta) (hs : starEach [a, b] X.env = [(false, eval a X.env), (false, eval b X.env)] := by rfl) (hs2 : starEach [b] X.env = [(false, eval b X.env)] := by rfl) :
    PI X tg (.Call (.Name "range" p) [a, b] [] pos) (zUo ta) := by
  intro pins s σ H R I h
  refine Call_ (zLX I hg hm boot_range (PyProof.Rows.callWith_type1 (thn (ha pos pins s σ H _ I h) fun us s1 ⟨vs, H1, I1, r1, q1⟩ => ?_) (by rw [hs, hs2]) (by rw [hs2]; rfl)))
  obtain ⟨i, j, e, ⟨q1, q2, q3, q4⟩, q⟩ := q1
  subst e
  cases r1 with
  | cons r rr =>
    cases rr with
    | cons r' rr =>
      cases rr
      obtain ⟨t, rfl⟩ := r
      obtain ⟨t', rfl⟩ := r'
      exact call_range_2 (zN7 I1 q1 q2 q3 q4 q)
def tFor (wi:TI) (g:TG) (tb:TS):TS:=fun D σ H=>wi σ H fun J H1=>∃ W:Nat→Nat→St→Hp→Prop,(∃ m,W 0 m σ H1) ∧ ∀ i m σ H,W i m σ H →
 (J.stop i H∧D.nx σ H)∨(J.go i H ∧ ∃ N:St→Hp→Prop,(∀ σ' H',N σ' H' → ∃ m',m' < m∧W (i+1) m' σ' H') ∧ ∀ x H',J.yld i H x H'→g x σ H' fun σ2 H2=>tb { D with nx:=N,ct:=N,bk:=D.nx } σ2 H2)
def zLz (fp:List Addr) (h:Heap):List (Addr × Obj):=fp.filterMap fun b=>(h.get? b).map fun o=>(b,o)
theorem zG6 {fp:List Addr} {h:Heap} {b:Addr} {o:Obj} (hb:b ∈ fp) (e:h.get? b=some o):(b,o) ∈ zLz fp h:=List.mem_filterMap.mpr ⟨b,hb,by rw [e];rfl⟩
theorem zQI {fp : List Addr} {h : Heap} {p : Addr × Obj} (hp : p ∈ zLz fp h) : p.1 ∈ fp ∧ h.get? p.1 = some p.2 := by
  obtain ⟨b, hb, e⟩ := List.mem_filterMap.mp hp
  cases q : h.get? b with
  | none => rw [q] at e; cases e
  | some o =>
    rw [q] at e
    have e' : (b, o) = p := Option.some.inj e
    subst e'
    exact ⟨hb, q⟩
theorem Inv.pinned {pins:List (Addr × Obj)} {σ:St} {H:Hp} {s:Shared} {fp:List Addr} (I:Inv X pins σ H s) (hf : ∀ b ∈ fp,FpOk X pins H b) (ho : ∀ b ∈ fp,∃ o,s.heap.get? b=some o ∧ ∀ v,o.data ≠ .cell v):Inv X (pins++zLz fp s.heap) σ H s:=
 I.pins_of fun p hp=>(List.mem_append.mp hp).elim (fun z=>I.pin p (List.mem_append_right _ z)) fun z=>by
  obtain ⟨hb,e⟩:=zQI z
  obtain ⟨f0,f1,f2,_⟩:=hf p.1 hb
  obtain ⟨o,e',d⟩:=ho p.1 hb
  rw [e] at e';cases e'
  exact ⟨e,f0,f1,f2,d⟩
theorem Inv.unpinned {pins pl:List (Addr × Obj)} {σ:St} {H:Hp} {s:Shared} (I:Inv X (pins++pl) σ H s):Inv X pins σ H s:=I.pins_of fun p hp=>I.pin p (List.mem_append_right _ (List.mem_append_left _ hp))
theorem zI4 {iter:Expr} {body:List Stmt} {wi:TI} {g:TG} {tb:TS} {pos:Pos} (hp:PassesOwn (model X.prog X.w) X.A X.env X.xe) (hc:X.calm=true) (hi:PI X tg iter wi) (hg:PG X tg g) (hb:PSs X body tb)
  (hs : ∀ x,foldedSetIterable iter X.env x=pure x:=by intro _;rfl):PS X (.For tg iter body [] pos) (tFor wi g tb):=by
 intro pins s σ H D I h
 refine wpAny_For (thn (hi pins s σ H _ I h) fun v s1 h1=>thn h1 fun itv s2 h2=>?_) hs
 obtain ⟨it,fp,tn,J,H2,e,I2,T,st2,f2,W,⟨m0,w0⟩,turn⟩:=h2
 subst e
 have stat : ∀ {H':Hp},(∀ b ∈ fp,H' b=none) → ∀ b ∈ fp,FpOk X pins H' b:=fun hn b hb=>⟨hn b hb,(f2 b hb).2⟩
 refine codeAny_forLoop_any (fun n s'=>∃ i σ' H',Inv X pins σ' H' s'∧tn i s'.heap∧(∀ b ∈ fp,H' b=none)∧W i n σ' H') ?_ m0 ⟨0,σ,H2,I2,st2,fun b hb=>(f2 b hb).1,w0⟩
 rintro n s3 ⟨i,σ3,H3,I3,st3,fr3,w3⟩
 rcases turn i n σ3 H3 w3 with ⟨stop,qn⟩ | ⟨go,N,hN,step⟩
 ·refine wpAny_passesOwn hp (thn (T.done X rfl rfl rfl hc i pins s3 σ3 H3 X.xe I3 (stat fr3) st3 stop) fun r s4 ⟨hr,I4⟩=>?_)
  subst hr
  exact wpAny_execs_nil ⟨σ3,H3,I4,qn⟩
 ·refine wpAny_passesOwn hp (thn (T.item X rfl rfl rfl hc i pins s3 σ3 H3 X.xe I3 (stat fr3) st3 go) fun r s4 ⟨u,hr,h4⟩=>?_)
  subst hr
  refine wpAny_passesOwn hp (thn h4 fun _ s5 ⟨x,H5,I5,r5,y5,st5,fr5⟩=>?_)
  have I5':=I5.pinned (stat fr5) (T.obj _ _ st5)
  refine wpAny_passesOwn hp (thn (hg _ s5 σ3 H5 x u _ I5' r5 (step x H5 y5)) fun _ s6 ⟨σ6,H6,I6,q6⟩=>?_)
  refine wpAny_passesOwn hp (thn (hb _ s6 σ6 H6 _ I6 q6) fun f s7 q7=>?_)
  have again : ∀ {σ7:St} {H7:Hp},Inv X (pins++zLz fp s5.heap) σ7 H7 s7→N σ7 H7 → ∃ m,m < n ∧ ∃ i σ' H',Inv X pins σ' H' s7∧tn i s7.heap∧(∀ b ∈ fp,H' b=none)∧W i m σ' H':=fun {σ7 H7} I7 n7=>by
   obtain ⟨m',hm,w7⟩:=hN σ7 H7 n7
   refine ⟨m',hm,i+1,σ7,H7,I7.unpinned,T.keep _ _ _ st5 fun b hb o e=>(I7.pin (b,o) (List.mem_append_right _ (List.mem_append_right _ (zG6 hb e)))).1,fun b hb=>?_,w7⟩
   obtain ⟨o,e,d⟩:=T.obj _ _ st5 b hb
   exact (I7.pin (b,o) (List.mem_append_right _ (List.mem_append_right _ (zG6 hb e)))).2.1
  cases f with
  | next=>obtain ⟨σ7,H7,I7,n7⟩:=q7;exact again I7 n7
  | cont=>obtain ⟨σ7,H7,I7,n7⟩:=q7;exact again I7 n7
  | brk=>obtain ⟨σ7,H7,I7,q7⟩:=q7;exact ⟨σ7,H7,I7.unpinned,q7⟩
  | ret v=>obtain ⟨x7,σ7,H7,I7,r7,q7⟩:=q7;exact ⟨x7,σ7,H7,I7.unpinned,r7,q7⟩
end
theorem zWp {K:PySem.W.Frag} {a:Addr} {xs:List V} {g:TG} {tb:TS} {D:Ends} {σ:St} {H:Hp} (Pv:Nat→St→Hp→Prop) (h0:Pv 0 σ H) (hl : ∀ i σ H,i≤xs.length→Pv i σ H→SqL K H a xs)
  (hs : ∀ i x σ H,xs[i]? = some x→Pv i σ H→g x σ H fun σ2 H2=>tb { D with nx:=Pv (i+1),ct:=Pv (i+1),bk:=D.nx } σ2 H2) (hd : ∀ σ H,Pv xs.length σ H→D.nx σ H) :
  ∃ W:Nat→Nat→St→Hp→Prop,(∃ m,W 0 m σ H) ∧ ∀ i m σ H,W i m σ H →
   ((Itl K a).stop i H∧D.nx σ H)∨((Itl K a).go i H ∧ ∃ N:St→Hp→Prop,(∀ σ' H',N σ' H' → ∃ m',m' < m∧W (i+1) m' σ' H') ∧ ∀ x H',(Itl K a).yld i H x H'→g x σ H' fun σ2 H2=>tb { D with nx:=N,ct:=N,bk:=D.nx } σ2 H2):=by
 refine ⟨fun i m σ H=>m=xs.length - i∧i≤xs.length∧Pv i σ H,⟨xs.length,by simp,Nat.zero_le _,h0⟩,?_⟩
 rintro i m σ H ⟨rfl,hi,p⟩
 have q:=hl i σ H hi p
 by_cases hlt:i < xs.length
 ·refine .inr ⟨⟨xs,xs[i],q,by simp [hlt]⟩,Pv (i+1),fun σ' H' p'=>⟨xs.length - (i+1),by omega,rfl,hlt,p'⟩,fun x H' y=>?_⟩
  obtain ⟨e,y⟩:=y
  subst e
  exact hs i x σ _ (y xs q) p
 ·have e:i=xs.length:=by omega
  subst e
  exact .inl ⟨⟨xs,q,Nat.le_refl _⟩,hd σ H p⟩
theorem zUF {K:PySem.W.Frag} {a:Addr} {xs:List V} {g:TG} {tb:TS} {D:Ends} {σ:St} {H:Hp} (Pv:Nat→St→Hp→Prop) (h0:Pv 0 σ H) (hl : ∀ i σ H,i≤xs.length→Pv i σ H→SqT K H a xs)
  (hs : ∀ i x σ H,xs[i]? = some x→Pv i σ H→g x σ H fun σ2 H2=>tb { D with nx:=Pv (i+1),ct:=Pv (i+1),bk:=D.nx } σ2 H2) (hd : ∀ σ H,Pv xs.length σ H→D.nx σ H) :
  ∃ W:Nat→Nat→St→Hp→Prop,(∃ m,W 0 m σ H) ∧ ∀ i m σ H,W i m σ H →
   ((Itt K a).stop i H∧D.nx σ H)∨((Itt K a).go i H ∧ ∃ N:St→Hp→Prop,(∀ σ' H',N σ' H' → ∃ m',m' < m∧W (i+1) m' σ' H') ∧ ∀ x H',(Itt K a).yld i H x H'→g x σ H' fun σ2 H2=>tb { D with nx:=N,ct:=N,bk:=D.nx } σ2 H2):=by
 refine ⟨fun i m σ H=>m=xs.length - i∧i≤xs.length∧Pv i σ H,⟨xs.length,by simp,Nat.zero_le _,h0⟩,?_⟩
 rintro i m σ H ⟨rfl,hi,p⟩
 have q:=hl i σ H hi p
 by_cases hlt:i < xs.length
 ·refine .inr ⟨⟨xs,xs[i],q,by simp [hlt]⟩,Pv (i+1),fun σ' H' p'=>⟨xs.length - (i+1),by omega,rfl,hlt,p'⟩,fun x H' y=>?_⟩
  obtain ⟨e,y⟩:=y
  subst e
  exact hs i x σ _ (y xs q) p
 ·have e:i=xs.length:=by omega
  subst e
  exact .inl ⟨⟨xs,q,Nat.le_refl _⟩,hd σ H p⟩
theorem zMT {lo:Int} {n:Nat} {g:TG} {tb:TS} {D:Ends} {σ:St} {H:Hp} (Pv:Nat→St→Hp→Prop) (h0:Pv 0 σ H)
  (hs : ∀ i σ H,i < n→Pv i σ H→g (.int (lo+i)) σ H fun σ2 H2=>tb { D with nx:=Pv (i+1),ct:=Pv (i+1),bk:=D.nx } σ2 H2) (hd : ∀ σ H,Pv n σ H→D.nx σ H) :
  ∃ W:Nat→Nat→St→Hp→Prop,(∃ m,W 0 m σ H) ∧ ∀ i m σ H,W i m σ H →
   ((Itr lo n).stop i H∧D.nx σ H)∨((Itr lo n).go i H ∧ ∃ N:St→Hp→Prop,(∀ σ' H',N σ' H' → ∃ m',m' < m∧W (i+1) m' σ' H') ∧ ∀ x H',(Itr lo n).yld i H x H'→g x σ H' fun σ2 H2=>tb { D with nx:=N,ct:=N,bk:=D.nx } σ2 H2):=by
 refine ⟨fun i m σ H=>m=n - i∧i≤n∧Pv i σ H,⟨n,by simp,Nat.zero_le _,h0⟩,?_⟩
 rintro i m σ H ⟨rfl,hi,p⟩
 by_cases hlt:i < n
 ·refine .inr ⟨hlt,Pv (i+1),fun σ' H' p'=>⟨n - (i+1),by omega,rfl,hlt,p'⟩,fun x H' y=>?_⟩
  obtain ⟨e,y⟩:=y
  subst e y
  exact hs i σ _ hlt p
 ·have e:i=n:=by omega
  subst e
  exact .inl ⟨Nat.le_refl _,hd σ H p⟩
abbrev R2:=V→V→Hp→VK→Prop
def OpR (X:Cx) (f:Value→Value→Sem Value) (r:R2):Prop:=
 ∀ (pins:List (Addr × Obj)) (s:Shared) (σ:St) (H:Hp) (x y:V) (v u:Value) (Q:VK),Inv X pins σ H s→RelV x v→RelV y u→r x y H Q →
  wpAny (model X.prog X.w) X.A (f v u) (EP X pins σ Q) X.xe s
def UnR (X:Cx) (f:Value→Sem Value) (r:V→Hp→VK→Prop):Prop:=
 ∀ (pins:List (Addr × Obj)) (s:Shared) (σ:St) (H:Hp) (x:V) (v:Value) (Q:VK),Inv X pins σ H s→RelV x v→r x H Q →
  wpAny (model X.prog X.w) X.A (f v) (EP X pins σ Q) X.xe s
def zGH (X:Cx) (f:Value) (r:List V→Hp→VK→Prop):Prop:=
 ∀ (pins:List (Addr × Obj)) (s:Shared) (σ:St) (H:Hp) (xs:List V) (us:List Value) (Q:VK),Inv X pins σ H s→Vals xs us→r xs H Q →
  wpAny (model X.prog X.w) X.A (call f us) (EP X pins σ Q) X.xe s
def tOp (r:R2) (ta tb:TE):TE:=fun σ H Q=>ta σ H fun x H1=>tb σ H1 fun y H2=>r x y H2 Q
def tUn (r:V→Hp→VK→Prop) (ta:TE):TE:=fun σ H Q=>ta σ H fun x H1=>r x H1 Q
def rI (C:Int→Int→Prop) (g:Int→Int→V):R2:=fun x y H Q=>∃ i j,x = .int i∧y = .int j∧C i j∧Q (g i j) H
def rI0 (g:Int→Int→V):R2:=fun x y H Q=>∃ i j,x = .int i∧y = .int j∧Q (g i j) H
def rU (g:Int→V):V→Hp→VK→Prop:=fun x H Q=>∃ i,x = .int i∧Q (g i) H
section
variable {X : Cx} {a b c : Expr} {ta tb tc : TE} {pos : Pos}
theorem binT (ha:PE X a ta) (hb:PE X b tb) {pins:List (Addr × Obj)} {s:Shared} {σ:St} {H:Hp} {R:V→V→Hp→Prop} (I:Inv X pins σ H s)
  (h:ta σ H fun x H1=>tb σ H1 fun y H2=>R x y H2) {Q:Value→Shared→Prop} {f:Value→Value→Sem Value}
  (hf : ∀ v u s2 x y H2,Inv X pins σ H2 s2→RelV x v→RelV y u→R x y H2→wpAny (model X.prog X.w) X.A (f v u) Q X.xe s2) :
  wpAny (model X.prog X.w) X.A (eval a X.env) (fun v s₁=>wpAny (model X.prog X.w) X.A (eval b X.env) (fun u s₂=>wpAny (model X.prog X.w) X.A (f v u) Q X.xe s₂) X.xe s₁) X.xe s:=by
 refine thn (ha pins s σ H _ I h) fun v s1 ⟨x,H1,I1,r1,q1⟩=>?_
 refine thn (hb pins s1 σ H1 _ I1 q1) fun u s2 ⟨y,H2,I2,r2,q2⟩=>?_
 exact hf v u s2 x y H2 I2 r1 r2 q2
theorem zAS {op:Operator} {r:R2} (ho:OpR X (binaryOp op) r) (ha:PE X a ta) (hb:PE X b tb):PE X (.BinOp a op b pos) (tOp r ta tb):=by
 intro pins s σ H Q I h
 exact wpAny_BinOp (binT ha hb I h fun v u s2 x y H2 I2 rx ry q=>ho pins s2 σ H2 x y v u Q I2 rx ry q)
theorem zHr {op:UnaryOp} {r:V→Hp→VK→Prop} (ho:UnR X (unaryOp op) r) (ha:PE X a ta):PE X (.UnaryOp op a pos) (tUn r ta):=by
 intro pins s σ H Q I h
 exact UnaryOp_ (thn (ha pins s σ H _ I h) fun v s1 ⟨x,H1,I1,r1,q1⟩=>ho pins s1 σ H1 x v Q I1 r1 q1)
theorem opI {f:Value→Value→Sem Value} {C:Int→Int→Prop} {g:Int→Int→Int}
  (rule : ∀ (i j:Int) (t u:Tok) (s:Shared) (Q:Value→Shared→Prop) (E:Value→Shared→Prop),C i j→Q (.int (g i j) s.toks) { s with toks:=s.toks+1 }→wpAny (model X.prog X.w) X.A (f (.int i t) (.int j u)) Q E s) :
  OpR X f (rI C fun i j=>.int (g i j)):=by
 intro pins s σ H x y v u Q I rx ry h
 obtain ⟨i,j,rfl,rfl,hc,q⟩:=h
 obtain ⟨t,rfl⟩:=rx
 obtain ⟨t',rfl⟩:=ry
 exact rule i j t t' s _ _ hc ⟨.int (g i j),H,I.tok _,⟨_,rfl⟩,q⟩
theorem opI0 {f:Value→Value→Sem Value} {g:Int→Int→Int}
  (rule : ∀ (i j:Int) (t u:Tok) (s:Shared) (Q:Value→Shared→Prop) (E:Value→Shared→Prop),Q (.int (g i j) s.toks) { s with toks:=s.toks+1 }→wpAny (model X.prog X.w) X.A (f (.int i t) (.int j u)) Q E s) :
  OpR X f (rI0 fun i j=>.int (g i j)):=by
 intro pins s σ H x y v u Q I rx ry h
 obtain ⟨i,j,rfl,rfl,q⟩:=h
 obtain ⟨t,rfl⟩:=rx
 obtain ⟨t',rfl⟩:=ry
 exact rule i j t t' s _ _ ⟨.int (g i j),H,I.tok _,⟨_,rfl⟩,q⟩
theorem opB0 {f:Value→Value→Sem Value} {g:Int→Int→Bool}
  (rule : ∀ (i j:Int) (t u:Tok) (s:Shared) (Q:Value→Shared→Prop) (E:Value→Shared→Prop),Q (.bool (g i j)) s→wpAny (model X.prog X.w) X.A (f (.int i t) (.int j u)) Q E s) :
  OpR X f (rI0 fun i j=>.bl (g i j)):=by
 intro pins s σ H x y v u Q I rx ry h
 obtain ⟨i,j,rfl,rfl,q⟩:=h
 obtain ⟨t,rfl⟩:=rx
 obtain ⟨t',rfl⟩:=ry
 exact rule i j t t' s _ _ ⟨.bl (g i j),H,I,rfl,q⟩
def CPow (i j:Int):Prop:=0≤j∧j≤1000000∧i.natAbs < 2 ^ 64
def CMul (i j:Int):Prop:=(-(2 ^ 64) < i∧i < 2 ^ 64)∨(-(2 ^ 64) < j∧j < 2 ^ 64)
theorem CMul.ok {i j:Int} (h:CMul i j):IntMulOk i j:=by
 rcases h with ⟨h1,h2⟩ | ⟨h1,h2⟩
 ·exact .of_left (intBits_le_64 h1 h2)
 ·exact .of_right (intBits_le_64 h1 h2)
theorem two_pow_nn (k:Nat):(0:Int)≤2 ^ k:=by
 rw [two_pow_cast]
 exact Int.natCast_nonneg _
theorem zBO:OpR X (binaryOp .Add) (rI0 fun i j=>.int (i+j)):=opI0 fun _ _ _ _ _ _ _ q=>add_int q
theorem zCr:OpR X (binaryOp .Sub) (rI0 fun i j=>.int (i - j)):=opI0 fun _ _ _ _ _ _ _ q=>sub_int q
theorem zVu:OpR X (binaryOp .Mod) (rI (fun _ j=>0 < j) fun i j=>.int (i % j)):=opI fun i j _ _ _ _ _ hc q=>by
 have h1:(0:Int) < j:=hc
 exact mod_int' (by omega) (by rw [Int.fmod_eq_emod_of_nonneg i (by omega)];exact q)
theorem zUr:OpR X (binaryOp .Pow) (rI CPow fun i j=>.int (i ^ j.toNat)):=opI fun _ _ _ _ _ _ _ hc q=>pow_int_small hc.1 hc.2.1 hc.2.2 q
theorem zVe:OpR X (binaryOp .RShift) (rI (fun _ j=>0≤j) fun i j=>.int (i / 2 ^ j.toNat)):=opI fun i j _ _ _ _ _ hc q =>
 rshift_int hc (by rw [Int.fdiv_eq_ediv_of_nonneg i (two_pow_nn _)];exact q)
theorem unI {f:Value→Sem Value} {g:Int→Int}
  (rule : ∀ (i:Int) (t:Tok) (s:Shared) (Q:Value→Shared→Prop) (E:Value→Shared→Prop),Q (.int (g i) s.toks) { s with toks:=s.toks+1 }→wpAny (model X.prog X.w) X.A (f (.int i t)) Q E s) :
  UnR X f (rU fun i=>.int (g i)):=by
 intro pins s σ H x v Q I rx h
 obtain ⟨i,rfl,q⟩:=h
 obtain ⟨t,rfl⟩:=rx
 exact rule i t s _ _ ⟨.int (g i),H,I.tok _,⟨_,rfl⟩,q⟩
theorem zEk:UnR X (unaryOp .USub) (rU fun i=>.int (-i)):=unI fun _ _ _ _ _ q=>neg_int q
end
def scal:V→V→Bool
 | .non,.non=>true | .non,.int _=>true | .int _,.non=>true | .non,.bl _=>true | .bl _,.non=>true | .non,.str _=>true | .str _,.non=>true
 | .int _,.int _=>true | .bl _,.bl _=>true | .str _,.str _=>true | .byt _,.byt _=>true
 | .int _,.str _=>true | .str _,.int _=>true | .bl _,.str _=>true | .str _,.bl _=>true
 | _,_=>false
def rEq:R2:=fun x y H Q=>scal x y=true∧Q (.bl (decide (x=y))) H
def rNe:R2:=fun x y H Q=>scal x y=true∧Q (.bl (!decide (x=y))) H
theorem zPP {i j:Int}:decide (V.int i=V.int j)=(i == j):=by
 rw [Bool.eq_iff_iff]
 simp
theorem zSj {i j:Bool}:decide (V.bl i=V.bl j)=(i == j):=by
 rw [Bool.eq_iff_iff]
 simp
theorem zPi {i j:Str}:decide (V.str i=V.str j)=(i == j):=by
 rw [Bool.eq_iff_iff]
 simp
theorem zQy {i j:Array UInt8}:decide (V.byt i=V.byt j)=(i.toList == j.toList):=by
 rw [Bool.eq_iff_iff]
 cases i
 cases j
 simp
section
variable {X : Cx} {a b c : Expr} {ta tb tc : TE} {pos : Pos}
theorem zBk {pins:List (Addr × Obj)} {σ:St} {H:Hp} {s:Shared} {Q:VK} {k k':Bool} (I:Inv X pins σ H s) (q:Q (.bl k) H) (e:k=k'):EP X pins σ Q (.bool k') s:=by
 subst e
 exact ⟨.bl k,H,I,rfl,q⟩
theorem zCB : OpR X (compareOp .Eq) rEq := by
  intro pins s σ H x y v u Q I rx ry h
  obtain ⟨hs, q⟩ := h
  cases x with
  | non =>
    cases rx
    cases y with
    | non => cases ry; exact PySem.EqNone.eq_none_none (zBk I q (by simp))
    | bl j => cases ry; exact PySem.EqNone.eq_none_bool (zBk I q (by simp))
    | int j => obtain ⟨t', rfl⟩ := ry; exact PySem.EqNone.eq_none_int (zBk I q (by simp))
    | str j => obtain ⟨t', rfl⟩ := ry; exact PySem.EqNone.eq_none_str (zBk I q (by simp))
    | _ => exact absurd (show false = true from hs) Bool.false_ne_true
  | bl i =>
    cases rx
    cases y with
    | non => cases ry; exact PySem.EqNone.eq_bool_none (zBk I q (by simp))
    | bl j => cases ry; exact eq_bool (zBk I q zSj)
    | str j => obtain ⟨t', rfl⟩ := ry; exact PySem.EqMixed.eq_bool_str (zBk I q (by simp))
    | _ => exact absurd (show false = true from hs) Bool.false_ne_true
  | int i =>
    obtain ⟨t, rfl⟩ := rx
    cases y with
    | non => cases ry; exact PySem.EqNone.eq_int_none (zBk I q (by simp))
    | int j => obtain ⟨t', rfl⟩ := ry; exact eq_int (zBk I q zPP)
    | str j => obtain ⟨t', rfl⟩ := ry; exact PySem.EqMixed.eq_int_str (zBk I q (by simp))
    | _ => exact absurd (show false = true from hs) Bool.false_ne_true
  | str i =>
    obtain ⟨t, rfl⟩ := rx
    cases y with
    | non => cases ry; exact PySem.EqNone.eq_str_none (zBk I q (by simp))
    | bl j => cases ry; exact PySem.EqMixed.eq_str_bool (zBk I q (by simp))
    | int j => obtain ⟨t', rfl⟩ := ry; exact PySem.EqMixed.eq_str_int (zBk I q (by simp))
    | str j => obtain ⟨t', rfl⟩ := ry; exact eq_str (zBk I q zPi)
    | _ => exact absurd (show false = true from hs) Bool.false_ne_true
  | byt i =>
    obtain ⟨t, rfl⟩ := rx
    cases y with
    | byt j => obtain ⟨t', rfl⟩ := ry; exact W.eq_bytes (zBk I q zQy)
    | _ => exact absurd (show false = true from hs) Bool.false_ne_true
  | _ => cases y <;> exact absurd (show false = true from hs) Bool.false_ne_true
theorem zJZ : OpR X (compareOp .NotEq) rNe := by
  intro pins s σ H x y v u Q I rx ry h
  obtain ⟨hs, q⟩ := h
  cases x with
  | non =>
    cases rx
    cases y with
    | non => cases ry; exact PySem.EqNone.ne_none_none (zBk I q (by simp))
    | bl j => cases ry; exact PySem.EqNone.ne_none_bool (zBk I q (by simp))
    | int j => obtain ⟨t', rfl⟩ := ry; exact PySem.EqNone.ne_none_int (zBk I q (by simp))
    | str j => obtain ⟨t', rfl⟩ := ry; exact PySem.EqNone.ne_none_str (zBk I q (by simp))
    | _ => exact absurd (show false = true from hs) Bool.false_ne_true
  | bl i =>
    cases rx
    cases y with
    | non => cases ry; exact PySem.EqNone.ne_bool_none (zBk I q (by simp))
    | bl j => cases ry; exact ne_bool (zBk I q (congrArg not zSj))
    | str j => obtain ⟨t', rfl⟩ := ry; exact PySem.EqMixed.ne_bool_str (zBk I q (by simp))
    | _ => exact absurd (show false = true from hs) Bool.false_ne_true
  | int i =>
    obtain ⟨t, rfl⟩ := rx
    cases y with
    | non => cases ry; exact PySem.EqNone.ne_int_none (zBk I q (by simp))
    | int j => obtain ⟨t', rfl⟩ := ry; exact ne_int (zBk I q (congrArg not zPP))
    | str j => obtain ⟨t', rfl⟩ := ry; exact PySem.EqMixed.ne_int_str (zBk I q (by simp))
    | _ => exact absurd (show false = true from hs) Bool.false_ne_true
  | str i =>
    obtain ⟨t, rfl⟩ := rx
    cases y with
    | non => cases ry; exact PySem.EqNone.ne_str_none (zBk I q (by simp))
    | bl j => cases ry; exact PySem.EqMixed.ne_str_bool (zBk I q (by simp))
    | int j => obtain ⟨t', rfl⟩ := ry; exact PySem.EqMixed.ne_str_int (zBk I q (by simp))
    | str j => obtain ⟨t', rfl⟩ := ry; exact ne_str (zBk I q (congrArg not zPi))
    | _ => exact absurd (show false = true from hs) Bool.false_ne_true
  | byt i =>
    obtain ⟨t, rfl⟩ := rx
    cases y with
    | byt j => obtain ⟨t', rfl⟩ := ry; exact W.ne_bytes (zBk I q (congrArg not zQy))
    | _ => exact absurd (show false = true from hs) Bool.false_ne_true
  | _ => cases y <;> exact absurd (show false = true from hs) Bool.false_ne_true
theorem zKR:OpR X (compareOp .Lt) (rI0 fun i j=>.bl (decide (i < j))):=opB0 fun _ _ _ _ _ _ _ q=>lt_int q
theorem zPF:OpR X (compareOp .LtE) (rI0 fun i j=>.bl (decide (i≤j))):=opB0 fun _ _ _ _ _ _ _ q=>le_int q
theorem zHk:OpR X (compareOp .Gt) (rI0 fun i j=>.bl (decide (j < i))):=opB0 fun _ _ _ _ _ _ _ q=>gt_int q
theorem zSA:OpR X (compareOp .GtE) (rI0 fun i j=>.bl (decide (j≤i))):=opB0 fun _ _ _ _ _ _ _ q=>ge_int q
theorem zQK:OpR X (compareOp .In) (fun x y H Q=>∃ i j,x = .str i∧y = .str j∧Q (.bl (!(Builtin.Str.occurrences j i 0 j.length 1).isEmpty)) H):=by
 intro pins s σ H x y v u Q I rx ry h
 obtain ⟨i,j,rfl,rfl,q⟩:=h
 obtain ⟨t,rfl⟩:=rx
 obtain ⟨t',rfl⟩:=ry
 exact in_str (zBk I q rfl)
theorem zUC:OpR X (compareOp .IsNot) (fun x y H Q=>y = .non∧Q (.bl (!decide (x = .non))) H):=by
 intro pins s σ H x y v u Q I rx ry h
 obtain ⟨rfl,q⟩:=h
 cases ry
 refine isnot_none_gen (zBk I q ?_)
 cases x <;> first
  | (cases rx;rfl)
  | (obtain ⟨t,rfl⟩:=rx;rfl)
theorem zAV (b:Expr) {op:CmpOp} (h:op ≠ .In:=by decide) (h2:op ≠ .NotIn:=by decide):behindInMarks op b=false:=by
 have e1:(op == CmpOp.In)=false:=by cases op <;> first | rfl | exact absurd rfl h
 have e2:(op == CmpOp.NotIn)=false:=by cases op <;> first | rfl | exact absurd rfl h2
 cases b <;> simp [behindInMarks,e1,e2]
theorem zCG {op:CmpOp} {r:R2} (ho:OpR X (compareOp op) r) (ha:PE X a ta) (hb:PE X b tb) (hm:behindInMarks op b=false):PE X (.Compare a [op] [b] pos) (tOp r ta tb):=by
 intro pins s σ H Q I h
 exact wpAny_Compare1 (binT ha hb I h fun v u s2 x y H2 I2 rx ry q=>ho pins s2 σ H2 x y v u Q I2 rx ry q) hm
def zTG (t:TE):TT:=fun σ H Q=>t σ H fun x H'=>∃ k,x = .bl k∧Q k H'
theorem zAT {op:CmpOp} {r:R2} (ho:OpR X (compareOp op) r) (ha:PE X a ta) (hb:PE X b tb) (hm:behindInMarks op b=false):PT X (.Compare a [op] [b] pos) (zTG (tOp r ta tb)):=by
 intro pins s σ H Q I h
 refine wpAny_isTrue_Compare1 (thn (ha pins s σ H _ I h) fun v s1 ⟨x,H1,I1,r1,q1⟩=>thn (hb pins s1 σ H1 _ I1 q1) fun u s2 ⟨y,H2,I2,r2,q2⟩ =>
  thn (ho pins s2 σ H2 x y v u _ I2 r1 r2 q2) fun c s3 ⟨z,H3,I3,r3,k,e,q3⟩=>?_) hm
 subst e
 cases r3
 exact wpAny_truthy_bool ⟨H3,I3,q3⟩
def zSP (r r':R2) (ta tb tc:TE):TE:=fun σ H Q=>ta σ H fun x H1=>tb σ H1 fun y H2=>r x y H2 fun z H3=>∃ k,z = .bl k ∧
 (if k=true then tc σ H3 fun w' H4=>r' y w' H4 Q else Q (.bl false) H3)
theorem zKw {op op' : CmpOp} {r r' : R2} (ho : OpR X (compareOp op) r) (ho' : OpR X (compareOp op') r') (ha : PE X a ta) (hb : PE X b tb) (hc : PE X c tc)
    (hm : lastMarks [op, op'] [b, c] = false := by with_unfolding_all rfl) : PT X (.Compare a [op, op'] [b, c] pos) (zTG (zSP r r' ta tb tc)) := by
  intro pins s σ H Q I h
  refine isTrue_chain (thn (ha pins s σ H _ I h) fun v s1 ⟨x, H1, I1, r1, q1⟩ => test_link (thn (hb pins s1 σ H1 _ I1 q1) fun u s2 ⟨y, H2, I2, r2, q2⟩ =>
    thn (ho pins s2 σ H2 x y v u _ I2 r1 r2 q2) fun d s3 ⟨z, H3, I3, r3, k, e, q3⟩ => ?_)) hm
  subst e
  cases r3
  refine wpAny_truthy_bool ?_
  cases k with
  | false =>
    obtain ⟨k', e', q'⟩ := q3
    cases e'
    exact ite_ff ⟨H3, I3, q'⟩
  | true =>
    refine ite_tt (test_last (thn (hc pins s3 σ H3 _ I3 q3) fun w' s4 ⟨z', H4, I4, r4, q4⟩ => thn (ho' pins s4 σ H4 y z' u w' _ I4 r2 r4 q4) fun d' s5 ⟨z2, H5, I5, r5, k2, e2, q5⟩ => ?_))
    subst e2
    cases r5
    exact wpAny_truthy_bool ⟨H5, I5, q5⟩
theorem zLx:(sizeLine:Nat) < 2 ^ 63:=by rw [sizeLine_eq];decide
theorem zOd:OpR X (binaryOp .Add) (fun x y H Q=>∃ i j,x = .str i∧y = .str j∧i.length+j.length≤sizeLine∧Q (.str (i++j)) H):=by
 intro pins s σ H x y v u Q I rx ry h
 obtain ⟨i,j,rfl,rfl,hz,q⟩:=h
 obtain ⟨t,rfl⟩:=rx
 obtain ⟨t',rfl⟩:=ry
 exact add_str (fun t' tk=>⟨.str (i++j),H,I.tok _,⟨_,rfl⟩,q⟩) hz
theorem zO7 {x:V} {us:List Value} (r:Vals [x] us) : ∃ u,us=[u]∧RelV x u:=by
 cases r with
 | cons r1 r2=>cases r2;exact ⟨_,rfl,r1⟩
theorem zRf {x y : V} {us : List Value} (r : Vals [x, y] us) : ∃ u w', us = [u, w'] ∧ RelV x u ∧ RelV y w' := by
  cases r with
  | cons r1 r2 =>
    cases r2 with
    | cons r3 r4 => cases r4; exact ⟨_, _, rfl, r1, r3⟩
theorem zRy:zGH X (.builtin "abs") (fun xs H Q=>∃ i,xs=[.int i]∧Q (.int (if i < 0 then -i else i)) H):=by
 intro pins s σ H xs us Q I r h
 obtain ⟨i,rfl,q⟩:=h
 obtain ⟨u,rfl,t,rfl⟩:=zO7 r
 exact call_abs_int fun u tk=>⟨.int (if i < 0 then -i else i),H,I.tok _,⟨_,rfl⟩,q⟩
theorem zQc (hc:X.calm=true):zGH X (.builtin "max") (fun xs H Q=>∃ i j,xs=[.int i,.int j]∧Q (.int (if j > i then j else i)) H):=by
 intro pins s σ H xs us Q I r h
 obtain ⟨i,j,rfl,q⟩:=h
 obtain ⟨u,w',rfl,⟨t,rfl⟩,⟨t',rfl⟩⟩:=zRf r
 refine max_two_ints (I.ok.hd hc) fun h' tk k=>⟨_,H,I.kept k,?_,q⟩
 by_cases hj:j > i
 ·rw [if_pos hj,if_pos hj];exact ⟨_,rfl⟩
 ·rw [if_neg hj,if_neg hj];exact ⟨_,rfl⟩
theorem zPa (hc:X.calm=true):zGH X (.builtin "min") (fun xs H Q=>∃ i j,xs=[.int i,.int j]∧Q (.int (if j < i then j else i)) H):=by
 intro pins s σ H xs us Q I r h
 obtain ⟨i,j,rfl,q⟩:=h
 obtain ⟨u,w',rfl,⟨t,rfl⟩,⟨t',rfl⟩⟩:=zRf r
 refine min_two_ints (I.ok.hd hc) fun h' tk k=>⟨_,H,I.kept k,?_,q⟩
 by_cases hj:j < i
 ·rw [if_pos hj,if_pos hj];exact ⟨_,rfl⟩
 ·rw [if_neg hj,if_neg hj];exact ⟨_,rfl⟩
end
structure ObjM (h:Heap) (x dx C:Addr) (mA:Str→Option Value):Prop where
 obj:h.get? x=some (W.instObj C dx)
 ns:h.Ns1 dx mA
 ne:dx≠x
theorem zQd {h:Heap} {dx:Addr} {mA:Str→Option Value} (n:h.Ns1 dx mA) : ∃ od,h.get? dx=some od ∧ ∀ name,W.lookIn name od=some (mA name):=by
 obtain ⟨o,es,ep,ho,hd,hk,_,hm⟩:=n
 refine ⟨o,ho,fun name=>?_⟩
 have e:=hm name
 unfold nsFind findBy at e
 rw [← Array.find?_toList] at e
 unfold W.lookIn
 rw [hd]
 dsimp only
 split
 ·rename_i y q
  rw [q] at e
  exact congrArg some e
 ·rename_i q
  rw [q] at e
  have a:es.toList.any (·.refKey)=false:=by
   rw [List.any_eq_false]
   intro y hy
   obtain ⟨z,t,hkey⟩:=hk y (Array.mem_toList_iff.mp hy)
   simp [DictEntry.refKey,hkey]
  have a' : ¬ es.toList.any (·.refKey)=true:=by rw [a];exact Bool.false_ne_true
  rw [if_neg a']
  exact congrArg some e
theorem ObjM.look {h:Heap} {x dx C:Addr} {mA:Str→Option Value} (I:ObjM h x dx C mA) : ∃ od,W.InstAt h x (W.instObj C dx) C (some od) ∧ ∀ name,W.lookIn name od=some (mA name):=
 let ⟨od,ho,hl⟩:=zQd I.ns
 ⟨od,⟨I.obj,rfl,rfl,ho⟩,hl⟩
section
variable {prog : Program} {w : World} {A : Around} {E : Value → Shared → Prop} {s : Shared} {K : W.Frag} {x dx C f : Addr} {mA : Str → Option Value} {name : Str} {v : Value}
theorem zUN {expr:Bool} {Q:Value→Shared→Prop} (X:K.In s.heap) (I:ObjM s.heap x dx C mA) (hg:W.plainGet K C name=true) (hh:W.hasDictIn K C=true)
  (ha:W.findIn K (.ref C) name=some none) (hv:mA name=some v) (hv':W.handedIn v=true) (h:Q v { s with toks:=s.toks+1 }) :
  wpAny (model prog w) A (getAttr (.ref x) name expr) Q E s:=by
 obtain ⟨od,J,hl⟩:=I.look
 exact W.get_value X J (W.plainGet_of hg).1 (W.findObj_own hh ha rfl (by rw [hl,hv])) hv' h
theorem zSM {pl:Sem Bool} {Q:Value × List Value→Shared→Prop} (X:K.In s.heap) (I:ObjM s.heap x dx C mA) (hg:W.plainGet K C name=true)
  (hf:W.findIn K (.ref C) name=some (some (.ref f))) (ht:W.isFn K (.ref f)=true) (hv:mA name=none) (h:Q (.ref f,[.ref x]) s) :
  wpAny (model prog w) A (getMethod (.ref x) name pl) Q E s:=by
 obtain ⟨od,J,hl⟩:=I.look
 exact W.method_fn X J (W.plainGet_of hg).1 (W.plainGet_of hg).2 hf (beq_iff_eq.mp ht) (by show (W.lookIn name od).map (·.isSome)=some false;rw [hl,hv];rfl) h
theorem zTg {ns:List Str} {Q:Unit→Shared→Prop} (X:K.In s.heap) (I:ObjM s.heap x dx C mA)
  (hs:W.findIn K (.ref C) "__setattr__" = some (some (.builtin "object.__setattr__"))) (hp:W.plainOver K C=true) (ht:W.takerIn K C name=some none) (hh:W.hasDictIn K C=true)
  (hw:PySem.Within mA ns) (hsz:ns.length≤sizeLine)
  (h : ∀ h',ObjM h' x dx C (fun y=>if y=name then some v else mA y)→Heap.SameBut dx s.heap h'→Q () { s with heap:=h',toks:=s.toks+2 }) :
  wpAny (model prog w) A (setAttr (.ref x) name v) Q E s:=by
 obtain ⟨od,J,hl⟩:=I.look
 refine W.set_plain X J hs (W.osa_open (s:={ s with toks:=s.toks+1 }) (r:=none) X J hp ht fun b=>?_)
 obtain ⟨cd,hc,hd'⟩:=W.any_some hh
 have hx:s.heap.get? x=some ⟨.ref C,some dx,.plain,#[]⟩:=I.obj
 refine wpAny_bind (wpAny_pure (wpAny_bind (wpAny_bind (wpAny_loadPart hx (wpAny_bind (W.Looks.here (s:={ s with toks:=s.toks+1 }) (W.looks_clsIn X hc) ?_))))))
 rw [hd']
 refine wpAny_pure (a:=some dx) (wpAny_bind (wpAny_pure (wpAny_bind ?_)))
 refine wpAny_nsSet1 (s:={ s with toks:=s.toks+1 }) I.ns fun h' hn2 hs2=>?_
 obtain ⟨oD,esD,epD,hoD,hdD,hcD⟩:=hn2.count (PySem.Within.cons name v hw)
 refine wpAny_bind (wpAny_lookBehind hoD (by rw [hdD];exact pastItsLine_dict (Nat.le_trans hcD (by rw [List.length_cons];omega))) ?_)
 exact wpAny_pure (h _ ⟨(hs2.2 _ (Ne.symm I.ne)).trans I.obj,hn2,I.ne⟩ hs2)
theorem zN9 {R:Result→Shared→Prop} {vs:List Value} {kw:List (Str × Value)} (X:K.In s.heap) (hm:W.makesIn K C=true)
  (hi:W.findIn K (.ref C) "__init__" = some (some (.ref f))) (hf:W.typeIn K (.ref f)=some (.type "function"))
  (h:codeAny (model prog w) (A.under (.builtin "type.__call__" ⟨.ref C::vs,kw⟩)) (.call (.ref f) ⟨.ref (s.heap.objs.size+1)::vs,kw⟩) (W.InitBack (s.heap.objs.size+1) R)
   { s with heap:=(s.heap.push W.emptyDict).push (W.instObj C s.heap.objs.size) }) :
  codeAny (model prog w) A (.call (.ref C) ⟨vs,kw⟩) R s:=by
 obtain ⟨hh,g,d,t,os⟩:=s
 exact W.make_core (W.makes_of X hm) (W.looks_findIn X hi) (fun self=>W.bind_fn X self hf) (.inl rfl) h
end
def putF (f:Str) (v:V):List (Str × V)→List (Str × V)
 | []=>[(f,v)]
 | (g,x)::r=>if g=f then (g,v)::r else (g,x)::putF f v r
theorem zKC (f g : Str) (v : V) : ∀ fs : List (Str × V), (putF f v fs).lookup g = if g = f then some v else fs.lookup g
  | [] => by
    show List.lookup g [(f, v)] = _
    by_cases h : g = f
    · have hb : (g == f) = true := beq_iff_eq.mpr h
      simp only [List.lookup, hb, if_pos h]
    · have hb : (g == f) = false := beq_eq_false_iff_ne.mpr h
      simp only [List.lookup, hb, if_neg h]
  | (k, x) :: r => by
    have ih := zKC f g v r
    rw [show putF f v ((k, x) :: r) = (if k = f then (k, v) :: r else (k, x) :: putF f v r) from rfl]
    by_cases hk : k = f
    · rw [if_pos hk]
      by_cases h : g = k
      · have hb : (g == k) = true := beq_iff_eq.mpr h
        simp only [List.lookup, hb, if_pos (h.trans hk)]
      · have hb : (g == k) = false := beq_eq_false_iff_ne.mpr h
        simp only [List.lookup, hb, if_neg (fun e : g = f => h (e.trans hk.symm))]
    · rw [if_neg hk]
      by_cases h : g = k
      · have hb : (g == k) = true := beq_iff_eq.mpr h
        simp only [List.lookup, hb, if_neg (fun e : g = f => hk (h.symm.trans e))]
      · have hb : (g == k) = false := beq_eq_false_iff_ne.mpr h
        simp only [List.lookup, hb]
        exact ih
theorem zJ7 (f : Str) (v : V) : ∀ fs : List (Str × V), f ∈ (putF f v fs).map (·.1) ∧ ∀ g, g ∈ fs.map (·.1) → g ∈ (putF f v fs).map (·.1)
  | [] => ⟨by simp [putF], fun g h => by simp at h⟩
  | (k, x) :: r => by
    obtain ⟨i1, i2⟩ := zJ7 f v r
    rw [show putF f v ((k, x) :: r) = (if k = f then (k, v) :: r else (k, x) :: putF f v r) from rfl]
    by_cases hk : k = f
    · rw [if_pos hk]
      subst hk
      exact ⟨by simp, fun g h => by simpa using h⟩
    · rw [if_neg hk]
      refine ⟨?_, fun g h => ?_⟩
      · rw [List.map_cons]
        exact List.mem_cons_of_mem _ i1
      · rw [List.map_cons] at h ⊢
        rcases List.mem_cons.mp h with e | e
        · exact List.mem_cons.mpr (.inl e)
        · exact List.mem_cons_of_mem _ (i2 g e)
theorem zJg (f : Str) (v : V) : ∀ fs : List (Str × V), (putF f v fs).length ≤ fs.length + 1
  | [] => by simp [putF]
  | (k, x) :: r => by
    have ih := zJg f v r
    rw [show putF f v ((k, x) :: r) = (if k = f then (k, v) :: r else (k, x) :: putF f v r) from rfl]
    by_cases hk : k = f
    · rw [if_pos hk, List.length_cons, List.length_cons]; omega
    · rw [if_neg hk, List.length_cons, List.length_cons]; omega
theorem RelO.some_of {v:V} {o:Option Value} (r:RelO (some v) o) : ∃ u,o=some u∧RelV v u:=by
 cases o with
 | none=>exact (show False from r).elim
 | some u=>exact ⟨u,rfl,r⟩
theorem RelO.none_of {o:Option Value} (r:RelO none o):o=none:=by
 cases o with
 | none=>rfl
 | some u=>exact (show False from r).elim
theorem zPx {v:V} {u:Value} (r:RelV v u):W.handedIn u=true:=by
 cases v with
 | non=>cases (show u=Value.none from r);rfl
 | bl b=>cases (show u=Value.bool b from r);rfl
 | int i=>obtain ⟨t,e⟩:=(show ∃ t,u=Value.int i t from r);cases e;rfl
 | str x=>obtain ⟨t,e⟩:=(show ∃ t,u=Value.str x t from r);cases e;rfl
 | byt b=>obtain ⟨t,e⟩:=(show ∃ t,u=Value.bytes b t from r);cases e;rfl
 | flt b=>obtain ⟨t,e⟩:=(show ∃ t,u=Value.float b t from r);cases e;rfl
 | ref a=>cases (show u=Value.ref a from r);rfl
 | ty n=>cases (show u=Value.type n from r);rfl
section
variable {P : Program} {w : World} {H H' : Hp} {h h' : Heap} {a C dx : Addr} {fs fs' : List (Str × V)}
theorem zK9 (hok:HOk P w H h) (e:H a=some (.ins C dx fs)) : ∃ mA,ObjM h a dx C mA∧(∀ f,RelO (fs.lookup f) (mA f))∧PySem.Within mA (fs.map (·.1))∧fs.length≤1000∧H dx=some (.own a):=by
 obtain ⟨d,z,ne,ob,mA,n,r,q⟩:=(show zEp P w H h a (.ins C dx fs) from hok a _ e)
 exact ⟨mA,⟨ob,n,ne⟩,r,q,z,d⟩
end
structure Cls (K:W.Frag) (C:Addr):Prop where
 pg:W.plainGet K C Str.empty=true
 hd:W.hasDictIn K C=true
 po:W.plainOver K C=true
 sa:W.findIn K (.ref C) "__setattr__" = some (some (.builtin "object.__setattr__"))
theorem Cls.get {K:W.Frag} {C:Addr} (c:Cls K C) (f:Str):W.plainGet K C f=true:=c.pg
def zGQ (K:W.Frag) (C:Addr) (f:Str):Prop:=W.findIn K (.ref C) f=some none
theorem zGQ.taker {K:W.Frag} {C:Addr} {f:Str} (n:zGQ K C f):W.takerIn K C f=some none:=by
 unfold W.takerIn
 rw [show W.findIn K (.ref C) f=some none from n]
 rfl
structure Con (K:W.Frag) (C:Addr) (f:Str) (v:V) (u:Value):Prop where
 at_:W.findIn K (.ref C) f=some (some u)
 rel:RelV v u
 get:W.specialIn K u "__get__" = some none
 cp:W.copiedNames.contains f=false
structure Meth (K:W.Frag) (C:Addr) (m:Str) (f:Addr):Prop where
 at_:W.findIn K (.ref C) m=some (some (.ref f))
 fn:W.isFn K (.ref f)=true
 kp:W.keepIn K (.ref f)=true
section
variable {X : Cx} {pins : List (Addr × Obj)} {σ : St} {H : Hp} {s : Shared} {a C dx : Addr} {fs : List (Str × V)} {f : Str} {v : V} {A : Around} {E : Value → Shared → Prop}
theorem zOf {b:Bool} {Q:Value→Shared→Prop} (I:Inv X pins σ H s) (e:H a=some (.ins C dx fs)) (c:Cls X.K C) (n:zGQ X.K C f) (l:fs.lookup f=some v)
  (h : ∀ u s',Inv X pins σ H s'→RelV v u→Q u s'):wpAny (model X.prog X.w) A (getAttr (.ref a) f b) Q E s:=by
 obtain ⟨mA,O,r,_,_,_⟩:=zK9 I.hok e
 obtain ⟨u,hu,ru⟩:=RelO.some_of (v:=v) (o:=mA f) (by rw [← l];exact r f)
 exact zUN I.kIn O (c.get f) c.hd n hu (zPx ru) (h u _ (I.tok _) ru)
theorem zIY {m:Str} {g:Addr} {pl:Sem Bool} {Q:Value × List Value→Shared→Prop} (I:Inv X pins σ H s) (e:H a=some (.ins C dx fs)) (c:Cls X.K C) (k:Meth X.K C m g) (l:fs.lookup m=none)
  (h:Q (.ref g,[.ref a]) s):wpAny (model X.prog X.w) A (getMethod (.ref a) m pl) Q E s:=by
 obtain ⟨mA,O,r,_,_,_⟩:=zK9 I.hok e
 have hn:mA m=none:=RelO.none_of (by rw [← l];exact r m)
 exact zSM I.kIn O (c.get m) k.at_ k.fn hn h
theorem zOr {y:V} {u:Value} {Q:Unit→Shared→Prop} (I:Inv X pins σ H s) (e:H a=some (.ins C dx fs)) (c:Cls X.K C) (n:zGQ X.K C f) (hl:fs.length < 1000) (ry:RelV y u)
  (h : ∀ s',Inv X pins σ (upd H a (.ins C dx (putF f y fs))) s'→Q () s'):wpAny (model X.prog X.w) A (setAttr (.ref a) f u) Q E s:=by
 obtain ⟨mA,O,r,wi,_,ho⟩:=zK9 I.hok e
 have hz:(fs.map (·.1)).length≤sizeLine:=by rw [List.length_map,sizeLine_eq];omega
 refine zTg I.kIn O c.sa c.po n.taker c.hd wi hz fun h' O' sb=>h _ ?_
 have hd : ∃ o,h'.get? dx=some o:=let ⟨o,_,_,e',_⟩:=O'.ns;⟨o,e'⟩
 refine I.write (x:=a) (e:=dx) (by rw [e];exact True.intro) (.inr ho) (fun b q hb z=>(sb.2 b hb).trans z) hd ?_
 refine ⟨by rw [zBV O.ne];exact ho,?_,O.ne,O'.obj,_,O'.ns,fun g=>?_,fun g hg=>?_⟩
 ·have:=zJg f y fs;omega
 ·show RelO ((putF f y fs).lookup g) (if g=f then some u else mA g)
  rw [zKC]
  by_cases q:g=f
  ·rw [if_pos q,if_pos q];exact ry
  ·rw [if_neg q,if_neg q];exact r g
 ·by_cases q:g=f
  ·rw [q];exact (zJ7 f y fs).1
  ·refine (zJ7 f y fs).2 g (wi g fun z=>hg ?_)
   show (if g=f then some u else mA g)=none
   rw [if_neg q];exact z
theorem Inv.made (I:Inv X pins σ H s):Inv X pins σ (upd (upd H s.heap.objs.size (.own (s.heap.objs.size+1))) (s.heap.objs.size+1) (.ins C s.heap.objs.size []))
  { s with heap:=(s.heap.push W.emptyDict).push (W.instObj C s.heap.objs.size) }:=by
 have e1:(s.heap.push W.emptyDict).get? s.heap.objs.size=some W.emptyDict:=Heap.get?_push_size s.heap rfl
 have e2:((s.heap.push W.emptyDict).push (W.instObj C s.heap.objs.size)).get? (s.heap.objs.size+1)=some (W.instObj C s.heap.objs.size):=by
  have:=Heap.get?_push_size (s.heap.push W.emptyDict) (o:=W.instObj C s.heap.objs.size) rfl
  rwa [Heap.size_push] at this
 have e3:(s.heap.push W.emptyDict).Ns s.heap.objs.size (fun _=>none):=⟨W.emptyDict,#[],_,e1,rfl,(fun e he=>absurd he (by simp)),fun _=>rfl⟩
 have I1:=I.laid (a:=s.heap.objs.size) (o:=.own (s.heap.objs.size+1)) (h':=s.heap.push W.emptyDict) (t':=s.toks) (fun b u q=>Heap.get?_push_of_some _ q) (Nat.le_refl _) ⟨_,e1⟩
 refine I1.laid (a:=s.heap.objs.size+1) (o:=.ins C s.heap.objs.size []) (t':=s.toks) (fun b u q=>Heap.get?_push_of_some _ q) (Nat.le_of_eq (Heap.size_push _ _)) ?_
 have ne:s.heap.objs.size≠s.heap.objs.size+1:=Nat.ne_of_lt (Nat.lt_succ_self _)
 refine ⟨by rw [zBV ne,zAU],Nat.zero_le _,ne,e2,fun _=>none,(Heap.Ns1.of_empty e3).at fun o q=>Heap.get?_push_of_some _ q,fun _=>True.intro,fun y hy=>absurd rfl hy⟩
theorem zUR {prog:Program} {w:World} {env:Env} {e:Expr} {f:Str} {pos:Pos} {s:Shared} {Q:Value→Shared→Prop} (hb:attributeBase e f env (eval e env)=eval e env)
  (h:wpAny (model prog w) A (eval e env) (fun o s₁=>wpAny (model prog w) A (getAttr o f true) Q E s₁) E s):wpAny (model prog w) A (eval (.Attribute e f pos) env) Q E s:=
 Attribute_any_ h (by rw [arm_eval_Attribute,hb])
end
def tFld (K:W.Frag) (ta:TE) (f:Str):TE:=fun σ H Q=>ta σ H fun x H1=>∃ a C dx fs v,x = .ref a∧H1 a=some (.ins C dx fs)∧Cls K C∧zGQ K C f∧fs.lookup f=some v∧Q v H1
def sFld (K:W.Frag) (ta tv:TE) (f:Str):TS:=fun D σ H=>tv σ H fun y H1=>ta σ H1 fun x H2=>∃ a C dx fs,x = .ref a∧H2 a=some (.ins C dx fs)∧Cls K C∧zGQ K C f∧fs.length < 1000 ∧
 D.nx σ (upd H2 a (.ins C dx (putF f y fs)))
section
variable {X : Cx} {o e value : Expr} {f : Str} {pos pos' tpos : Pos} {ta tv : TE}
theorem zAg (he:PE X e ta) (hb:attributeBase e f X.env (eval e X.env)=eval e X.env):PE X (.Attribute e f pos) (tFld X.K ta f):=by
 intro pins s σ H Q I h
 refine zUR hb (thn (he pins s σ H _ I h) fun u s1 ⟨x,H1,I1,rx,a,C,dx,fs,v,ex,ea,c,n,l,q⟩=>?_)
 subst ex
 obtain rfl:u=Value.ref a:=rx
 exact zOf I1 ea c n l fun u' s2 I2 ru=>⟨v,H1,I2,ru,q⟩
theorem zD9 (ha:PE X o ta) (hv:PE X value tv) (hs:swapsWith value (some (.Attribute o f pos')) pos.line X.env=pure false):PS X (.Assign [.Attribute o f pos'] value pos) (sFld X.K ta tv f):=by
 intro pins s σ H D I h
 refine plainObj_wpAny_Assign_Attribute (thn (hv pins s σ H _ I h) fun u s1 ⟨y,H1,I1,ry,q⟩=>thn (ha pins s1 σ H1 _ I1 q) fun ov s2 ⟨x,H2,I2,rx,a,C,dx,fs,ex,ea,c,n,l,q2⟩=>?_) hs
 subst ex
 obtain rfl:ov=Value.ref a:=rx
 exact zOr I2 ea c n l ry fun s3 I3=>⟨σ,_,I3,q2⟩
theorem zTH {pl:Sem Bool} {m:Str} {apos:Pos} {args:List Expr} {pins:List (Addr × Obj)} {s:Shared} {σ:St} {H:Hp} {Q:Value→Shared→Prop} {te:TE} (he:PE X e te) (I:Inv X pins σ H s)
  (h:te σ H fun x H1=>∃ a C dx fs g,x = .ref a∧H1 a=some (.ins C dx fs)∧Cls X.K C∧Meth X.K C m g∧fs.lookup m=none ∧
   ∀ s1,Inv X pins σ H1 s1→wpAny (model X.prog X.w) X.A (callWith pos (.ref g) [.ref a] (backTo pos (starEach args X.env)) (backToKw pos (keywordEach [] X.env))) Q X.xe s1)
  (ht:eval (.Call (.Attribute e m apos) args [] pos) X.env=(do
   let ov ← eval e X.env
   standAt apos.atName
   let (f,first) ← holding [ov] (getMethod ov m pl)
   callWith pos f first (backTo pos (starEach args X.env)) (backToKw pos (keywordEach [] X.env)))) :
  wpAny (model X.prog X.w) X.A (eval (.Call (.Attribute e m apos) args [] pos) X.env) Q X.xe s:=by
 refine W.methodCall_KW (pl:=pl) (thn (he pins s σ H _ I h) fun u s1 ⟨x,H1,I1,rx,a,C,dx,fs,g,ex,ea,c,k,l,q⟩=>?_) ht
 subst ex
 obtain rfl:u=Value.ref a:=rx
 exact zIY I1 ea c k l (q s1 I1)
end
section
variable {X : Cx} {pins : List (Addr × Obj)} {σ : St} {H : Hp} {s : Shared} {A : Around} {E : Value → Shared → Prop} {Q : Value → Shared → Prop} {c : Value} {b : Bool}
inductive TyOf (K:W.Frag) (H:Hp):V→Value→Prop where
 | non:TyOf K H .non (.type "NoneType")
 | bl (x:Bool):TyOf K H (.bl x) (.type "bool")
 | int (i:Int):TyOf K H (.int i) (.type "int")
 | str (x:Str):TyOf K H (.str x) (.type "str")
 | flt (x:UInt64):TyOf K H (.flt x) (.type "float")
 | lst {a:Addr} {xs:List V} (e:H a=some (.lst xs)):TyOf K H (.ref a) (.type "list")
 | frz {a:Addr} {o:Obj} {xs:List V} (e:H a=some (.frz o (.lst xs))):TyOf K H (.ref a) (.type "list")
 | tup {a:Addr} {xs:List V} (e:H a=some (.tup xs)):TyOf K H (.ref a) (.type "tuple")
 | dK {a:Addr} {kvs:List (Key × V)} (e:H a=some (.dK kvs)):TyOf K H (.ref a) (.type "dict")
 | dT {a:Addr} {kvs:List (List Key × V)} (e:H a=some (.dT kvs)):TyOf K H (.ref a) (.type "dict")
 | ins {a C dx:Addr} {fs:List (Str × V)} (e:H a=some (.ins C dx fs)) (cl:Cls K C) (ha:W.findIn K (.ref C) "__class__" = some (some (.builtin "object.__class__")))
   (hn:W.specialIn K (.builtin "object.__class__") "__get__" = some (some (.builtin "getset_descriptor.__get__"))) (htk:W.takesIn K (.builtin "object.__class__")=some true)
   (hm:W.mroIn K C (.type "object")=some true):TyOf K H (.ref a) (.ref C)
theorem zQE {x : V} {u t : Value} (I : Inv X pins σ H s) (rx : RelV x u) (ty : TyOf X.K H x t) (e : W.kitOne X.K t c = some b) (h : ∀ tk, Q (.bool b) { s with toks := tk }) :
    wpAny (model X.prog X.w) A (call (.builtin "isinstance") [u, c]) Q E s := by
  cases ty with
  | non => cases (show u = Value.none from rx); exact W.kia_one W.kitx_none I.kIn True.intro e (fun z => nomatch z) h
  | bl y => cases (show u = Value.bool y from rx); exact W.kia_one W.kitx_bool I.kIn True.intro e (fun z => nomatch z) h
  | int i => obtain ⟨t, q⟩ := (show ∃ t, u = Value.int i t from rx); cases q; exact W.kia_one W.kitx_int I.kIn True.intro e (fun z => nomatch z) h
  | str y => obtain ⟨t, q⟩ := (show ∃ t, u = Value.str y t from rx); cases q; exact W.kia_one W.kitx_str I.kIn True.intro e (fun z => nomatch z) h
  | flt y => obtain ⟨t, q⟩ := (show ∃ t, u = Value.float y t from rx); cases q; exact W.kia_one W.kitx_float I.kIn True.intro e (fun z => nomatch z) h
  | @lst a xs ea =>
    cases (show u = Value.ref a from rx)
    obtain ⟨_, _, n, _, h1⟩ := (show zEp X.prog X.w H s.heap a (.lst xs) from I.hok a _ ea)
    exact W.kia_one W.kitx_list I.kIn ⟨_, h1, rfl⟩ e (fun z => nomatch z) h
  | @frz a ob xs ea =>
    cases (show u = Value.ref a from rx)
    obtain ⟨_, _, _, n, _, h1⟩ := (show zEp X.prog X.w H s.heap a (.frz ob (.lst xs)) from I.hok a _ ea)
    exact W.kia_one W.kitx_list I.kIn ⟨_, h1, rfl⟩ e (fun z => nomatch z) h
  | @tup a xs ea =>
    cases (show u = Value.ref a from rx)
    obtain ⟨_, _, _, p⟩ := (show zEp X.prog X.w H s.heap a (.tup xs) from I.hok a _ ea)
    obtain ⟨o, h1, h2, _⟩ := p
    exact W.kia_one W.kitx_tuple I.kIn ⟨o, h1, h2⟩ e (fun z => nomatch z) h
  | @dK a kvs ea =>
    cases (show u = Value.ref a from rx)
    obtain ⟨_, _, vs, _, p⟩ := (show zEp X.prog X.w H s.heap a (.dK kvs) from I.hok a _ ea)
    obtain ⟨o, es, ep, h1, h2, _⟩ := p
    exact W.kia_one W.kitx_dict I.kIn ⟨o, h1, h2.1⟩ e (fun z => nomatch z) h
  | @dT a kvs ea =>
    cases (show u = Value.ref a from rx)
    obtain ⟨_, _, xs, _, o, es, ep, h1, h2, _⟩ := (show zEp X.prog X.w H s.heap a (.dT kvs) from I.hok a _ ea)
    exact W.kia_one W.kitx_dict I.kIn ⟨o, h1, h2.1⟩ e (fun z => nomatch z) h
  | @ins a C dx fs ea cl ha hn htk hm =>
    cases (show u = Value.ref a from rx)
    obtain ⟨mA, O, _⟩ := zK9 I.hok ea
    obtain ⟨od, J, _⟩ := O.look
    exact W.kia_one (W.kitx_own (cl.get _) cl.hd ha hn htk hm) I.kIn J e (fun z => nomatch z) h
end
structure Room (k:Nat) (A:Around):Prop where
 hd:A.handled=none
 dp:A.depth+3*k+5 < recursionLimit
 un:A.units+16*k+200 < cLine
theorem Room.mono {j k:Nat} {A:Around} (r:Room k A) (h:j≤k):Room j A:=⟨r.hd,by have:=r.dp;omega,by have:=r.un;omega⟩
theorem Room.deeper {k:Nat} {A:Around} (r:Room (k+1) A) (env:Env):Room k (A.deeper env):=
 ⟨r.hd,by have:=r.dp;show A.depth+1+3*k+5 < _;omega,by have:=r.un;show A.units+3+16*k+200 < _;omega⟩
theorem Room.in1 {k:Nat} {A:Around} (r:Room (k+1) A):Room k A.in1:=
 ⟨r.hd,by have:=r.dp;show A.depth+3*k+5 < _;omega,by have:=r.un;show A.units+1+16*k+200 < _;omega⟩
theorem zOl {A:Around} {C:Addr} {us:List Value} {kw:List (Str × Value)}:(A.under (.builtin "type.__call__" ⟨.ref C::us,kw⟩)).depth=A.depth+1:=by
 first | rfl | simp [Around.under,Code.weight,Code.isCreation,Code.isGuard,Code.isCaller,Code.frames,Code.isFrame,guardIds]
theorem zOt {A:Around} {C:Addr} {us:List Value} {kw:List (Str × Value)}:(A.under (.builtin "type.__call__" ⟨.ref C::us,kw⟩)).units=A.units+1:=by
 first | rfl | simp [Around.under,Code.cUnits,Code.frames,Code.isFrame]
theorem Room.make {k:Nat} {A:Around} (r:Room (k+1) A) (C:Addr) (us:List Value) (kw:List (Str × Value)):Room k (A.under (.builtin "type.__call__" ⟨.ref C::us,kw⟩)):=
 ⟨r.hd,by have:=r.dp;rw [zOl];omega,by have:=r.un;rw [zOt];omega⟩
theorem Room.depth {k:Nat} {A:Around} (r:Room k A):A.depth < recursionLimit:=by have:=r.dp;omega
theorem Room.units {k:Nat} {A:Around} (r:Room k A):A.units+64 < cLine:=by have:=r.un;omega
def tNil:TA:=fun _ H Q=>Q [] H
def zU7 (ta:TE) (tr:TA):TA:=fun σ H Q=>ta σ H fun x H1=>tr σ H1 fun xs H2=>Q (x::xs) H2
section
variable {X : Cx} {e : Expr} {es : List Expr} {te : TE} {t : TA} {pos : Pos}
theorem zAH:PA X [] tNil:=fun _ _ _ _ H Q I h=>Calls.spliced_nil ⟨[],H,I,.nil,h⟩
theorem zAA (ha:PE X e te) (hr:PA X es t) (hs:starEach (e::es) X.env=(false,eval e X.env)::starEach es X.env:=by rfl):PA X (e::es) (zU7 te t):=by
 intro pos pins s σ H Q I h
 rw [hs]
 show wpAny _ _ (spliced ((false,eval e X.env)::backTo pos (starEach es X.env))) _ _ s
 refine Calls.spliced_cons (thn (ha pins s σ H _ I h) fun u s1 ⟨x,H1,I1,r1,q1⟩=>?_)
 exact thn (hr pos pins s1 σ H1 _ I1 q1) fun us s2 ⟨xs,H2,I2,r2,q2⟩=>⟨x::xs,H2,I2,.cons r1 r2,q2⟩
def tTup (t:TA):TE:=fun σ H Q=>t σ H fun xs H1=>xs.length≤sizeLine ∧ ∀ p,H1 p=none→Q (.ref p) (upd H1 p (.tup xs))
def tLst (t:TA):TE:=fun σ H Q=>t σ H fun xs H1=>xs.length≤sizeLine ∧ ∀ p,H1 p=none→Q (.ref p) (upd H1 p (.lst xs))
theorem zDI {x1} (h:PA X es t):PE X (.Tuple es x1 pos) (tTup t):=by
 intro pins s σ H Q I hq
 refine wpAny_Tuple_spliced (thn (h pos pins s σ H _ I hq) fun us s1 ⟨xs,H1,I1,r,z,q⟩=>⟨by rw [← r.length];exact z,?_⟩)
 have hf:H1 s1.heap.objs.size=none:=I1.hok.fresh (Nat.le_refl _)
 refine ⟨.ref s1.heap.objs.size,upd H1 s1.heap.objs.size (.tup xs),I1.laid (t':=s1.toks) (fun b u e=>Heap.get?_push_of_some _ e) (Nat.le_refl _) ?_,rfl,q _ hf⟩
 exact ⟨z,us,r,⟨_,Heap.get?_push_size _ rfl,rfl,_,rfl⟩⟩
theorem zBE (h:PA X es t):PE X (.List es pos) (tLst t):=by
 intro pins s σ H Q I hq
 refine wpAny_List_spliced (thn (h pos pins s σ H _ I hq) fun us s1 ⟨xs,H1,I1,r,z,q⟩=>⟨by rw [← r.length];exact z,?_⟩)
 have hf:H1 s1.heap.objs.size=none:=I1.hok.fresh (Nat.le_refl _)
 refine ⟨.ref s1.heap.objs.size,upd H1 s1.heap.objs.size (.lst xs),I1.laid (t':=s1.toks) (fun b u e=>Heap.get?_push_of_some _ e) (Nat.le_refl _) ?_,rfl,q _ hf⟩
 exact ⟨z,us,0,r,Heap.get?_push_size _ rfl⟩
end
abbrev Sp:=List V→Hp→VK→XK→Prop
abbrev CXT:=List Env→Hp→Shared→XK→Value→Shared→Prop
structure Env0 (P:Program) (w:World) (K:W.Frag) (mg:Str→Option Value) (base:Heap) (A:Around) (outer:List Env) (s:Shared) (H:Hp):Prop where
 frames:A.frames=some outer
 mod:Mod K mg base
 bs : ∀ b o,base.get? b=some o→s.heap.get? b=some o∧H b=none
 bsz:base.objs.size≤s.heap.objs.size
 funs:s.heap.FunFrames base outer
 frf : ∀ b ∈ frs outer,H b=none
 hok:HOk P w H s.heap
 bare:AllBare s.gens
def CE (outer:List Env) (P:Program) (w:World) (H:Hp) (s:Shared) (Q:VK) (u:Value) (s':Shared):Prop:=
 ∃ v H',s'.os=s.os∧AllBare s'.gens∧Un (frs outer) [] H H' s.heap s'.heap∧HOk P w H' s'.heap∧RelV v u∧Q v H'
def CR (CX:CXT) (outer:List Env) (P:Program) (w:World) (H:Hp) (s:Shared) (Q:VK) (E:XK) (r:Result) (s':Shared):Prop:=
 match r with
 | .ok (.ret u)=>CE outer P w H s Q u s'
 | .ok _=>False
 | .error e=>CX outer H s E e s'
structure FnOk (P:Program) (w:World) (K:W.Frag) (mg:Str→Option Value) (base:Heap) (CX:CXT) (k:Nat) (f:Addr) (fd:FuncData) (ps:List Str) (sp:Sp):Prop where
 len : ∀ vs H Q E,sp vs H Q E→vs.length=ps.length
 run : ∀ (A:Around) (outer:List Env) (s:Shared) (H:Hp) (args:Args) (us:List Value) (vs:List V) (Q:VK) (E:XK),Room k A→Env0 P w K mg base A outer s H→BindsTo s fd args (ps.zip us)→Vals vs us→sp vs H Q E →
  codeAny (model P w) A (.call (.ref f) args) (CR CX outer P w H s Q E) s
theorem FnOk.mono {P:Program} {w:World} {K:W.Frag} {mg:Str→Option Value} {base:Heap} {CX:CXT} {j k:Nat} {f:Addr} {fd:FuncData} {ps:List Str} {sp:Sp} (F:FnOk P w K mg base CX j f fd ps sp) (h:j≤k) :
  FnOk P w K mg base CX k f fd ps sp:=⟨F.len,fun A outer s H args us vs Q E hr=>F.run A outer s H args us vs Q E (hr.mono h)⟩
theorem FnOk.imp {P:Program} {w:World} {K:W.Frag} {mg:Str→Option Value} {base:Heap} {CX:CXT} {k:Nat} {f:Addr} {fd:FuncData} {ps:List Str} {sp sp':Sp} (F:FnOk P w K mg base CX k f fd ps sp)
  (h : ∀ vs H Q E,sp' vs H Q E→sp vs H Q E):FnOk P w K mg base CX k f fd ps sp':=
 ⟨fun vs H Q E q=>F.len vs H Q E (h _ _ _ _ q),fun A outer s H args us vs Q E hr he hb hv hs=>F.run A outer s H args us vs Q E hr he hb hv (h _ _ _ _ hs)⟩
theorem Env0.make {P:Program} {w:World} {K:W.Frag} {mg:Str→Option Value} {base:Heap} {A:Around} {outer:List Env} {s:Shared} {H:Hp} (e:Env0 P w K mg base A outer s H) (C:Addr) (us:List Value) (kw:List (Str × Value)) :
  Env0 P w K mg base (A.under (.builtin "type.__call__" ⟨.ref C::us,kw⟩)) outer s H:=⟨by first | exact e.frames | (simpa [Around.under,Code.envs,Code.isFrame,pushEnvs] using e.frames),e.mod,e.bs,e.bsz,e.funs,e.frf,e.hok,e.bare⟩
theorem Env0.in1 {P:Program} {w:World} {K:W.Frag} {mg:Str→Option Value} {base:Heap} {A:Around} {outer:List Env} {s:Shared} {H:Hp} (e:Env0 P w K mg base A outer s H) :
  Env0 P w K mg base A.in1 outer s H:=⟨e.frames,e.mod,e.bs,e.bsz,e.funs,e.frf,e.hok,e.bare⟩
section
variable {X : Cx} {pins : List (Addr × Obj)} {σ : St} {H : Hp} {s s' : Shared}
theorem Inv.env0 (I:Inv X pins σ H s):Env0 X.prog X.w X.K X.mg X.base X.A X.stack s H:=
 ⟨I.ok.frames,I.ok.mod,I.bs,Nat.le_trans I.ok.bsz I.sz,I.stack,I.stkFree,I.hok,I.bare⟩
theorem Inv.after {Q:VK} {u:Value} (I:Inv X pins σ H s) (h:CE X.stack X.prog X.w H s Q u s'):EP X pins σ Q u s':=by
 obtain ⟨v,H',os,bare,un,hok,r,q⟩:=h
 obtain ⟨hh,g,d,t,os'⟩:=s'
 obtain rfl:os'=s.os:=os
 exact ⟨v,H',I.call (h':=hh) (g':=g) (d':=d) (t':=t) (ch:=[]) un hok bare (fun b z=>absurd z (by simp)),r,q⟩
end
def zMm (sp:Sp) (dvs:List V) (E:XK) (t:TA):TE:=fun σ H Q=>t σ H fun vs H1=>sp (vs++dvs) H1 Q E
def zLP (C:Addr) (m:Str) (sp:Sp) (dvs:List V) (E:XK) (ta:TE) (t:TA):TE:=fun σ H Q=>ta σ H fun x H1=>∃ a dx fs,x = .ref a∧H1 a=some (.ins C dx fs)∧fs.lookup m=none ∧
 t σ H1 fun vs H2=>sp (x::(vs++dvs)) H2 Q E
def zTA (C:Addr) (sp:Sp) (dvs:List V) (E:XK) (t:TA):TE:=fun σ H Q=>t σ H fun vs H1=>∀ x dx,H1 x=none→H1 dx=none→dx≠x →
 sp (.ref x::(vs++dvs)) (upd (upd H1 dx (.own x)) x (.ins C dx [])) (fun v H2=>v = .non∧Q (.ref x) H2) E
def zB7 (K:W.Frag) (fd:FuncData) (ps:List Str) (ds:List Value):Prop:=
 ∀ (s:Shared) (us:List Value),K.In s.heap→(us++ds).length=ps.length→BindsTo s fd ⟨us,[]⟩ (ps.zip (us++ds))
theorem zB7.all {K:W.Frag} {fd:FuncData} {ps:List Str} (h : ∀ us:List Value,us.length=ps.length→bindArgs fd ⟨us,[]⟩=pure (ps.zip us)):zB7 K fd ps []:=fun s us _ hl=>by
 rw [List.append_nil] at hl ⊢
 exact .of_eq (h us hl)
def zEY (CX:CXT) (X:Cx) (E:XK):Prop:=∀ (pins:List (Addr × Obj)) (σ:St) (H:Hp) (s:Shared) (e:Value) (s':Shared),Inv X pins σ H s→CX X.stack H s E e s'→X.xe e s'
section
variable {X : Cx} {CX : CXT} {k : Nat} {f C : Addr} {fd : FuncData} {ps : List Str} {sp : Sp} {dvs : List V} {ds : List Value} {E : XK} {x m : Str} {p pos apos : Pos} {e o : Expr} {es : List Expr} {ta : TE} {t : TA}
theorem zOE {pins : List (Addr × Obj)} {σ : St} {H : Hp} {s : Shared} {Q : VK} {us : List Value} {vs : List V} (F : FnOk X.prog X.w X.K X.mg X.base CX k f fd ps sp) (hr : Room k X.A) (hb : zB7 X.K fd ps ds) (hd : Vals dvs ds) (hx : zEY CX X E)
    (I : Inv X pins σ H s) (r : Vals vs us) (h : sp (vs ++ dvs) H Q E) : wpAny (model X.prog X.w) X.A (call (.ref f) us) (EP X pins σ Q) X.xe s := by
  have r2 : Vals (vs ++ dvs) (us ++ ds) := r.append hd
  have hl : (us ++ ds).length = ps.length := by rw [← r2.length]; exact F.len _ _ _ _ h
  refine wpAny_call (codeAny_mono (F.run X.A X.stack s H ⟨us, []⟩ (us ++ ds) (vs ++ dvs) Q E hr I.env0 (hb s us I.kIn hl) r2 h) fun r s' hq => ?_)
  cases r with
  | error e => exact hx pins σ H s e s' I hq
  | ok fl =>
    cases fl with
    | ret u => exact I.after hq
    | next => exact False.elim hq
    | brk => exact False.elim hq
    | cont => exact False.elim hq
theorem zTj (F:FnOk X.prog X.w X.K X.mg X.base CX k f fd ps sp) (hr:Room k X.A) (hg:Gl X x) (hm:X.mg x=some (.ref f)) (hk:W.keepIn X.K (.ref f)=true) (hb:zB7 X.K fd ps ds) (hd:Vals dvs ds) (hx:zEY CX X E)
  (ha:PA X (e::es) t) (hdb:(x == ("__debug__" : Str))=false:=by decide) (he:starEach (e::es) X.env=(false,eval e X.env)::starEach es X.env:=by rfl) (hpl:(backTo pos (starEach es X.env)).any (·.1)=false:=by rfl) :
  PE X (.Call (.Name x p) (e::es) [] pos) (zMm sp dvs E t):=by
 intro pins s σ H Q I h
 refine wpAny_Call_Name_kw (zCq I hg hm ?_ hdb)
 refine W.callWith_K (h₀:=X.base) I.ok.mod.kin hk (thn (ha pos pins s σ H _ I h) fun us s1 ⟨vs,H1,I1,r,q⟩=>⟨I1.kIn,?_⟩) he hpl
 exact zOE F hr hb hd hx I1 r q
theorem zRs (F:FnOk X.prog X.w X.K X.mg X.base CX k f fd ps sp) (hr:Room k X.A) (hg:Gl X x) (hm:X.mg x=some (.ref f)) (hk:W.keepIn X.K (.ref f)=true) (hb:zB7 X.K fd ps ds) (hd:Vals dvs ds) (hx:zEY CX X E)
  (hdb:(x == ("__debug__" : Str))=false:=by decide):PE X (.Call (.Name x p) [] [] pos) (zMm sp dvs E tNil):=by
 intro pins s σ H Q I h
 refine wpAny_Call_Name_kw (zCq I hg hm ?_ hdb)
 exact W.callWith_K0 I.kIn hk (zOE (us:=[]) F hr hb hd hx I .nil h)
theorem zT4 {pl:Sem Bool} (he:PE X o ta) (c:Cls X.K C) (hm:Meth X.K C m f) (F:FnOk X.prog X.w X.K X.mg X.base CX k f fd ps sp) (hr:Room k X.A) (hb:zB7 X.K fd ps ds) (hd:Vals dvs ds) (hx:zEY CX X E) (ha:PA X (e::es) t)
  (hst:starEach (e::es) X.env=(false,eval e X.env)::starEach es X.env:=by rfl) (hpl:(backTo pos (starEach es X.env)).any (·.1)=false:=by rfl)
  (ht:eval (.Call (.Attribute o m apos) (e::es) [] pos) X.env=(do
   let ov ← eval o X.env
   standAt apos.atName
   let (f,first) ← holding [ov] (getMethod ov m pl)
   callWith pos f first (backTo pos (starEach (e::es) X.env)) (backToKw pos (keywordEach [] X.env))):=by rfl) :
  PE X (.Call (.Attribute o m apos) (e::es) [] pos) (zLP C m sp dvs E ta t):=by
 intro pins s σ H Q I h
 refine W.methodCall_KW (pl:=pl) (thn (he pins s σ H _ I h) fun u s1 ⟨x,H1,I1,rx,a,dx,fs,ex,ea,l,q⟩=>?_) ht
 subst ex
 obtain rfl:u=Value.ref a:=rx
 refine zIY I1 ea c hm l ?_
 refine W.callWith_K (first:=[.ref a]) (h₀:=X.base) I.ok.mod.kin hm.kp (thn (ha pos pins s1 σ H1 _ I1 q) fun us s2 ⟨vs,H2,I2,r,q2⟩=>⟨I2.kIn,?_⟩) hst hpl
 exact zOE (us:=.ref a::us) (vs:=.ref a::vs) F hr hb hd hx I2 (.cons rfl r) q2
structure Mk (K:W.Frag) (C f:Addr):Prop where
 makes:W.makesIn K C=true
 init:W.findIn K (.ref C) "__init__" = some (some (.ref f))
 fn:W.isFn K (.ref f)=true
 kp:W.keepIn K (.ref C)=true
theorem zSE {pins : List (Addr × Obj)} {σ : St} {H : Hp} {s : Shared} {Q : VK} {us : List Value} {vs : List V} (M : Mk X.K C f) (F : FnOk X.prog X.w X.K X.mg X.base CX k f fd ps sp) (hr : Room (k + 1) X.A) (hb : zB7 X.K fd ps ds) (hd : Vals dvs ds)
    (hx : zEY CX X E) (I : Inv X pins σ H s) (r : Vals vs us)
    (h : ∀ x dx, H x = none → H dx = none → dx ≠ x → sp (.ref x :: (vs ++ dvs)) (upd (upd H dx (.own x)) x (.ins C dx [])) (fun v H2 => v = .non ∧ Q (.ref x) H2) E) :
    wpAny (model X.prog X.w) X.A (call (.ref C) us) (EP X pins σ Q) X.xe s := by
  have hq := h (s.heap.objs.size + 1) s.heap.objs.size (I.hok.fresh (Nat.le_succ _)) (I.hok.fresh (Nat.le_refl _)) (Nat.ne_of_lt (Nat.lt_succ_self _))
  have I2 := Inv.made (C := C) I
  have r2 : Vals (V.ref (s.heap.objs.size + 1) :: (vs ++ dvs)) (Value.ref (s.heap.objs.size + 1) :: (us ++ ds)) := .cons rfl (r.append hd)
  have hl : (Value.ref (s.heap.objs.size + 1) :: us ++ ds).length = ps.length := by
    have e := r2.length
    rw [F.len _ _ _ _ hq] at e
    exact e.symm
  refine wpAny_call (zN9 (f := f) I.kIn M.makes M.init (beq_iff_eq.mp M.fn) (codeAny_mono (F.run _ X.stack _ _ ⟨Value.ref (s.heap.objs.size + 1) :: us, []⟩ (Value.ref (s.heap.objs.size + 1) :: (us ++ ds)) _ _ E (hr.make C us [])
    (I2.env0.make C us []) (hb _ (Value.ref (s.heap.objs.size + 1) :: us) I2.kIn hl) r2 hq) fun r s' hq' => ?_))
  cases r with
  | error e => exact hx pins σ _ _ e s' I2 hq'
  | ok fl =>
    cases fl with
    | ret u =>
      obtain ⟨v, H', I3, rv, ev, q3⟩ := I2.after hq'
      subst ev
      exact ⟨rv, ⟨V.ref (s.heap.objs.size + 1), H', I3, rfl, q3⟩⟩
    | next => exact False.elim hq'
    | brk => exact False.elim hq'
    | cont => exact False.elim hq'
theorem zTC (M:Mk X.K C f) (F:FnOk X.prog X.w X.K X.mg X.base CX k f fd ps sp) (hr:Room (k+1) X.A) (hg:Gl X x) (hm:X.mg x=some (.ref C)) (hb:zB7 X.K fd ps ds) (hd:Vals dvs ds) (hx:zEY CX X E)
  (ha:PA X (e::es) t) (hdb:(x == ("__debug__" : Str))=false:=by decide) (he:starEach (e::es) X.env=(false,eval e X.env)::starEach es X.env:=by rfl) (hpl:(backTo pos (starEach es X.env)).any (·.1)=false:=by rfl) :
  PE X (.Call (.Name x p) (e::es) [] pos) (zTA C sp dvs E t):=by
 intro pins s σ H Q I h
 refine wpAny_Call_Name_kw (zCq I hg hm ?_ hdb)
 refine W.callWith_K (h₀:=X.base) I.ok.mod.kin M.kp (thn (ha pos pins s σ H _ I h) fun us s1 ⟨vs,H1,I1,r,q⟩=>⟨I1.kIn,?_⟩) he hpl
 exact zSE M F hr hb hd hx I1 r q
end
def PK (X:Cx) (kws:List Keyword) (t:TA):Prop:=
 ∀ (pos:Pos) (pins:List (Addr × Obj)) (s:Shared) (σ:St) (H:Hp) (Q:List V→Hp→Prop),Inv X pins σ H s→t σ H Q→wpAny (model X.prog X.w) X.A (evalAll ((backToKw pos (keywordEach kws X.env)).map (·.2))) (AP X pins σ Q) X.xe s
section
variable {X : Cx} {CX : CXT} {k : Nat} {f C : Addr} {fd : FuncData} {ps ks : List Str} {sp : Sp} {E : XK} {x m : Str} {p pos apos kpos : Pos} {e o : Expr} {es : List Expr} {kws : List Keyword} {te ta : TE} {t tk : TA} {nm : Option Str}
theorem zQQ:PK X [] tNil:=fun _ _ _ _ H Q I h=>wpAny_evalAll_nil ⟨[],H,I,.nil,h⟩
structure zIz (K:W.Frag) (fd:FuncData) (ps ks:List Str) (g:List Value→List Value→List Value) (gV:List V→List V→List V):Prop where
 to : ∀ (s:Shared) (us ws:List Value),K.In s.heap→(g us ws).length=ps.length→BindsTo s fd ⟨us,ks.zip ws⟩ (ps.zip (g us ws))
 rel : ∀ {vs:List V} {us:List Value} {zs:List V} {ws:List Value},Vals vs us→Vals zs ws→Vals (gV vs zs) (g us ws)
variable {g : List Value → List Value → List Value} {gV : List V → List V → List V}
end
structure zAR (N P:List Str) (sc:Scope):Prop where
 kind:sc.kind = .function
 co:sc.isCoroutine=false
 gen:sc.isGenerator=false
 nd:N.Nodup
 pre:N.take P.length=P
 par : ∀ x ∈ P,sc.names.lookup x=some .local∨sc.names.lookup x=some .cell
 nofree : ∀ y ∈ sc.names,y.2 ≠ .free
theorem zMJ {kindOf : Str → Option NameKind} {x : Str} : ∀ {binds : List (Str × Value)} {m : Str → Option Value}, (∀ v, (x, v) ∉ binds) → bindL kindOf binds m x = m x
  | [], _, _ => rfl
  | (n, v) :: r, m, h => by
    unfold bindL
    rw [zMJ fun w hw => h w (List.mem_cons_of_mem _ hw)]
    split
    · have : x ≠ n := by rintro rfl; exact h v List.mem_cons_self
      simp [this]
    · rfl
theorem zMc {kindOf : Str → Option NameKind} {x : Str} : ∀ {binds : List (Str × Value)} {m : Str → Option Value}, (∀ v, (x, v) ∉ binds) → bindC kindOf binds m x = m x
  | [], _, _ => rfl
  | (n, v) :: r, m, h => by
    unfold bindC
    rw [zMc fun w hw => h w (List.mem_cons_of_mem _ hw)]
    split
    · rfl
    · have : x ≠ n := by rintro rfl; exact h v List.mem_cons_self
      simp [this]
theorem zLT {kindOf : Str → Option NameKind} {x : Str} {v : Value} : ∀ {P : List Str} {vs : List Value} {i : Nat} {m : Str → Option Value}, P.Nodup → P[i]? = some x → vs[i]? = some v → kindOf x = some .local →
    bindL kindOf (P.zip vs) m x = some v
  | [], _, _, _, _, h, _, _ => by simp at h
  | _ :: _, [], _, _, _, _, h, _ => by simp at h
  | p :: P, w :: vs, 0, m, nd, h1, h2, hk => by
    simp at h1 h2; subst h1; subst h2
    show bindL kindOf ((p, w) :: P.zip vs) m p = _
    unfold bindL
    rw [zMJ fun v hv => (List.nodup_cons.mp nd).1 (List.of_mem_zip hv).1, if_pos hk]
    simp
  | p :: P, w :: vs, i + 1, m, nd, h1, h2, hk => by
    show bindL kindOf ((p, w) :: P.zip vs) m x = _
    unfold bindL
    exact zLT (i := i) (List.nodup_cons.mp nd).2 (by simpa using h1) (by simpa using h2) hk
theorem zLi {kindOf : Str → Option NameKind} {x : Str} {v : Value} : ∀ {P : List Str} {vs : List Value} {i : Nat} {m : Str → Option Value}, P.Nodup → P[i]? = some x → vs[i]? = some v → kindOf x ≠ some .local →
    bindC kindOf (P.zip vs) m x = some v
  | [], _, _, _, _, h, _, _ => by simp at h
  | _ :: _, [], _, _, _, _, h, _ => by simp at h
  | p :: P, w :: vs, 0, m, nd, h1, h2, hk => by
    simp at h1 h2; subst h1; subst h2
    show bindC kindOf ((p, w) :: P.zip vs) m p = _
    unfold bindC
    rw [zMc fun v hv => (List.nodup_cons.mp nd).1 (List.of_mem_zip hv).1, if_neg hk]
    simp
  | p :: P, w :: vs, i + 1, m, nd, h1, h2, hk => by
    show bindC kindOf ((p, w) :: P.zip vs) m x = _
    unfold bindC
    exact zLi (i := i) (List.nodup_cons.mp nd).2 (by simpa using h1) (by simpa using h2) hk
def start (N:List Str) (vs:List V):St:=vs.map some++List.replicate (N.length - vs.length) none
def cxOf (CX:CXT) (P:Program) (w:World) (K:W.Frag) (mg:Str→Option Value) (base:Heap) (N:List Str) (qual:Str) (scope:Scope) (f:Addr) (cd:Value) (A:Around) (outer:List Env) (s:Shared) (H:Hp) (E:XK):Cx where
 prog:=P
 w:=w
 K:=K
 mg:=mg
 base:=base
 A:=A.deeper (envOfC qual scope s.heap.objs.size f cd)
 N:=N
 s₀:=s
 H₀:=H
 env:=envOfC qual scope s.heap.objs.size f cd
 outer:=outer
 stack:=envOfC qual scope s.heap.objs.size f cd::outer
 ex:=[]
 calm:=true
 fn:=fun _=>true
 pn:=[]
 xe:=fun e s'=>wpAny (model P w) (A.deeper (envOfC qual scope s.heap.objs.size f cd)) (leaving (envOfC qual scope s.heap.objs.size f cd) e) (fun _ s''=>CX outer H s E e s'') (fun e' s''=>CX outer H s E e' s'') s'
theorem zOC {sc:Scope} {n:Nat} {x:Str} (h:sc.names.lookup x=some .cell) : ∃ c,(cellsFrom n sc.names []).lookup x=some c:=by
 have q:=W.cellsFrom_some sc.names n [] (.inl h)
 exact Option.isSome_iff_exists.mp q
theorem zPu {CX:CXT} {P:Program} {w:World} {K:W.Frag} {mg:Str→Option Value} {base:Heap} {N ps:List Str} {qual:Str} {scope:Scope} {f:Addr} {cd:Value} {A:Around} {outer:List Env} {s s1:Shared} {H:Hp} {E:XK} {us:List Value} {vs:List V}
  (S:zAR N ps scope) (hd:A.handled=none) (e0:Env0 P w K mg base A outer s H) (hl:vs.length=ps.length) (r:Vals vs us)
  (x:InCallC s s.heap.objs.size (bindL (envOfC qual scope s.heap.objs.size f cd).kindOf (ps.zip us) fun _=>none) (cellsFrom (s.heap.objs.size+1) scope.names []) (bindC (envOfC qual scope s.heap.objs.size f cd).kindOf (ps.zip us) fun _=>none) s1) :
  Inv (cxOf CX P w K mg base N qual scope f cd A outer s H E) [] (start N vs) H s1:=by
 have hpl:ps.length≤N.length:=by have:=congrArg List.length S.pre;rw [List.length_take] at this;omega
 obtain ⟨h1,tk,rfl,hk⟩:=x.done
 have noA : ∀ b:Addr,b ∉ (cxOf CX P w K mg base N qual scope f cd A outer s H E).ex:=fun b z=>absurd (show b ∈ ([]:List Addr) from z) (by simp)
 refine ⟨⟨e0.mod,S.kind,rfl,rfl,Nat.le_refl _,fun y z c h1 h2=>?_,fun y hy=>?_,fun y c _ h=>?_,fun _=>hd,Around.frames_deeper e0.frames,.inr ⟨rfl,rfl⟩,fun b z=>absurd z (noA b),e0.bs,e0.bsz,fun b _ _=>noA b,fun b z=>absurd z (noA b),e0.funs,e0.frf⟩,
  rfl,e0.bare,Un.kept hk,⟨_,x.toInCall.ns,fun i y v h1 h2 h3=>?_⟩,fun y c h=>⟨_,x.cell y c h⟩,e0.hok.fresh (Nat.le_refl _),fun y c h=>?_,fun p hp=>absurd (show p ∈ ([]:List (Addr × Obj)) from hp) (by simp),e0.hok.kept hk,?_⟩
 ·exact name_of_addr x.apart (PySem.mem_of_lookup h1) (PySem.mem_of_lookup h2)
 ·have hy:scope.names.lookup y=some .cell∨scope.names.lookup y=some .free:=hy
  rcases hy with hy | hy
  ·exact zOC hy
  ·exact absurd rfl (S.nofree _ (PySem.mem_of_lookup hy))
 ·exact Nat.le_of_lt (x.above y c (PySem.mem_of_lookup h))
 ·have hi:i < vs.length:=by
   unfold start at h2
   by_cases hi:i < vs.length
   ·exact hi
   ·rw [List.getElem?_append_right (by simpa using hi)] at h2
    rw [List.getElem?_replicate] at h2
    split at h2 <;> cases h2
  have ha:vs[i]? = some v:=by
   unfold start at h2
   rw [List.getElem?_append_left (by simpa using hi),List.getElem?_map] at h2
   cases e:vs[i]? with
   | none=>rw [e] at h2;cases h2
   | some a=>rw [e] at h2;cases h2;rfl
  obtain ⟨u,hu,rv⟩:=r.get ha
  have hp:ps[i]? = some y:=by
   rw [← S.pre,List.getElem?_take_of_lt (by omega)];exact h1
  have ndP:ps.Nodup:=by rw [← S.pre];exact S.nd.sublist (List.take_sublist _ _)
  refine ⟨u,rv,?_⟩
  rcases S.par y (List.mem_of_getElem? hp) with k | k
  ·exact .inl ⟨k,zLT ndP hp hu k⟩
  ·obtain ⟨c,e⟩:=zOC (n:=s.heap.objs.size+1) k
   refine .inr ⟨.inl k,c,e,?_⟩
   have q:=x.cell y c e
   rw [zLi ndP hp hu (by show scope.names.lookup y≠_;rw [k];decide)] at q
   exact q
 ·exact e0.hok.fresh (Nat.le_of_lt (x.above y c (PySem.mem_of_lookup h)))
 ·unfold start
  show _=N.length
  rw [List.length_append,List.length_map,List.length_replicate]
  omega
theorem zPv {CX : CXT} {P : Program} {w : World} {K : W.Frag} {mg : Str → Option Value} {base : Heap} {k : Nat} {f : Addr} {name qual : Str} {params : Arguments} {body : List Stmt} {scope : Scope} {dV kV doc pm cdv ct oc : Value} {an od : Option Addr}
    {osl : Array (Option Value)} {N ps : List Str} {sp : Sp} (lk : K.lookup f = some ⟨oc, od, .func (W.fnOf name qual params body scope dV kV doc pm an cdv ct), osl⟩) (hcd : W.codeIn K cdv qual = true) (S : zAR N ps scope)
    (len : ∀ vs H Q E, sp vs H Q E → vs.length = ps.length)
    (hbody : ∀ (A : Around) (outer : List Env) (s : Shared) (H : Hp) (vs : List V) (Q : VK) (E : XK), Room k (A.deeper (envOfC qual scope s.heap.objs.size f cdv)) → sp vs H Q E →
      ∃ t, PSs (cxOf CX P w K mg base N qual scope f cdv A outer s H E) body t ∧ t { nx := fun _ H' => Q .non H', rt := Q } (start N vs) H) :
    FnOk P w K mg base CX (k + 1) f (W.fnOf name qual params body scope dV kV doc pm an cdv ct) ps sp := by
  refine ⟨len, fun A outer s H args us vs Q E hr e0 hb r hsp => ?_⟩
  have hl := len _ _ _ _ hsp
  have KX : K.In s.heap := e0.mod.kin.keeps fun b o e => (e0.bs b o e).1
  have lim : s.heap.NoLimit := e0.mod.nolimit.keeps fun b o e => (e0.bs b o e).1
  have hkind : ∀ y ∈ ps.zip us, scope.names.lookup y.1 = some .local ∨ (scope.names.lookup y.1 = some .cell ∧ ((cellsFrom (s.heap.objs.size + 1) scope.names []).lookup y.1).isSome = true) := fun ⟨n, v⟩ hy => by
    rcases S.par n (List.of_mem_zip hy).1 with q | q
    · exact .inl q
    · exact .inr ⟨q, W.cellsFrom_some _ _ _ (.inl q)⟩
  refine codeAny_call_function hr.depth (KX _ _ lk) rfl S.co S.gen rfl (W.codeRec_of KX hcd) (hb _ _ _ _ ?_)
  refine wpAny_newFunctionEnv_cells S.kind hkind fun env he s1 x => ?_
  subst he
  refine ⟨lim.keeps x.toInCall.keep, codeAny_func ?_⟩
  obtain ⟨t, ht, hq⟩ := hbody A outer s H vs Q E (hr.deeper _) hsp
  have I : Inv (cxOf CX P w K mg base N qual scope f cdv A outer s H E) [] (start N vs) H s1 := zPu S hr.hd e0 hl r x
  refine wpAny_mono (ht [] s1 (start N vs) H _ I hq) (fun fl s' hs => ?_) fun e s' hs => hs
  have fin : ∀ {σ' : St} {H' : Hp} {v : V} {u : Value}, Inv (cxOf CX P w K mg base N qual scope f cdv A outer s H E) [] σ' H' s' → RelV v u → Q v H' → CE outer P w H s Q u s' :=
    fun {σ' H' v u} J rv q => ⟨v, H', J.os, J.bare, J.base, J.hok, rv, q⟩
  cases fl with
  | ret u =>
    obtain ⟨v, σ', H', J, rv, q⟩ := hs
    exact fin J rv q
  | next =>
    obtain ⟨σ', H', J, q⟩ := hs
    exact fin (v := V.non) (u := Value.none) J rfl q
  | brk =>
    obtain ⟨_, _, _, q⟩ := hs
    exact False.elim q
  | cont =>
    obtain ⟨_, _, _, q⟩ := hs
    exact False.elim q
section
variable {X : Cx} {x : Str} {p pos : Pos} {e : Expr} {es : List Expr} {t : TA} {id T : String} {r : List V → Hp → VK → Prop}
def tCB (r:List V→Hp→VK→Prop) (t:TA):TE:=fun σ H Q=>t σ H fun vs H1=>r vs H1 Q
theorem zQ5 (hc:zGH X (.builtin id) r) (hg:Gl X x) (hm:X.mg x=none) (hv:bootBuiltins x=some (.builtin id)) (ha:PA X (e::es) t) (hn:x ≠ "__name__" := by decide) (hdb:(x == ("__debug__" : Str))=false:=by decide)
  (he:starEach (e::es) X.env=(false,eval e X.env)::starEach es X.env:=by rfl) (hpl:(backTo pos (starEach es X.env)).any (·.1)=false:=by rfl):PE X (.Call (.Name x p) (e::es) [] pos) (tCB r t):=by
 intro pins s σ H Q I h
 refine wpAny_Call_Name_kw (zLX I hg hm hv ?_ hn hdb)
 exact PyProof.Rows.callWith_builtin1 (thn (ha pos pins s σ H _ I h) fun us s1 ⟨vs,H1,I1,r1,q1⟩=>hc pins s1 σ H1 vs us Q I1 r1 q1) he hpl
theorem zFl (hc:zGH X (.type T) r) (hg:Gl X x) (hm:X.mg x=none) (hv:bootBuiltins x=some (.type T)) (ha:PA X (e::es) t) (hn:x ≠ "__name__" := by decide) (hdb:(x == ("__debug__" : Str))=false:=by decide)
  (he:starEach (e::es) X.env=(false,eval e X.env)::starEach es X.env:=by rfl) (hpl:(backTo pos (starEach es X.env)).any (·.1)=false:=by rfl):PE X (.Call (.Name x p) (e::es) [] pos) (tCB r t):=by
 intro pins s σ H Q I h
 refine wpAny_Call_Name_kw (zLX I hg hm hv ?_ hn hdb)
 exact PyProof.Rows.callWith_type1 (thn (ha pos pins s σ H _ I h) fun us s1 ⟨vs,H1,I1,r1,q1⟩=>hc pins s1 σ H1 vs us Q I1 r1 q1) he hpl
end
end L2
namespace HT
open PySem PyProof.Rows
section
open PySem.SeqAt
open PySem.AutoSeq1 (wpAny_loadPart')
open PySem.MeetsSeq PySem.MeetsSeq2 PySem.MeetsSeq3
end
section
variable {prog : Program} {w : World} {A : Around} {E : Value → Shared → Prop} {s : Shared}
theorem cat_tup {t b:Addr} {vs ws:List Value} {Q:Value→Shared→Prop} (ht:IsTup s.heap t vs.toArray) (hb:IsTup s.heap b ws.toArray) (hv:vs≠[])
  (h1:ws=[]→Q (.ref t) s) (h2:ws≠[]→Q (.ref s.heap.objs.size) { s with heap:=s.heap.push { cls:=.type "tuple", data:=.seq (vs++ws).toArray } })
  (hsz:vs.length+ws.length≤sizeLine):wpAny (model prog w) A (binaryOp .Add (.ref t) (.ref b)) Q E s:=by
 obtain ⟨⟨cls,dd,data,sl⟩,ho,hc,n,hd⟩:=id ht
 obtain ⟨⟨cls2,dd2,data2,sl2⟩,ho2,hc2,n2,hd2⟩:=id hb
 simp only at hc hd hc2 hd2
 subst hc hd hc2 hd2
 have e:vs.toArray++ws.toArray=(vs++ws).toArray:=by simp
 by_cases hw:ws=[]
 ·exact concat_meets ⟨_,ho,rfl⟩ ⟨_,ho2,rfl⟩ noFill_tuple_add seq_tuple_add PySem.F.slot_tuple_add PySem.F.entry_tuple_add (PySem.F.args_tuple_add_2 _ _)
   (tuple_addW1 t b vs.toArray ws.toArray n n2 dd dd2 sl sl2 (by simpa using hv) (by simp [hw])) ⟨ho,ho2,h1 hw⟩
 ·refine concat_meets ⟨_,ho,rfl⟩ ⟨_,ho2,rfl⟩ noFill_tuple_add seq_tuple_add PySem.F.slot_tuple_add PySem.F.entry_tuple_add (PySem.F.args_tuple_add_2 _ _)
   (tuple_addW2 t b vs.toArray ws.toArray n n2 dd dd2 sl sl2 (by simpa using hv) (by simpa using hw) (by rw [List.size_toArray,List.size_toArray];exact hsz)) ⟨ho,ho2,?_⟩
  rw [e]
  exact h2 hw
def sIx (n d:Nat):Option Int→Nat
 | none=>d
 | some v=>if v < 0 then (v+(n:Int)).toNat else min v.toNat n
theorem sIx_none (n d:Nat):sIx n d none=d:=rfl
theorem zVK (n d : Nat) (hd : d ≤ n) (o : Option Int) : sIx n d o ≤ n := by
  cases o with
  | none => exact hd
  | some v =>
    show (if v < 0 then (v + (n : Int)).toNat else min v.toNat n) ≤ n
    by_cases hv : v < 0
    · rw [if_pos hv]; omega
    · rw [if_neg hv]; exact Nat.min_le_right _ _
theorem zPY (v:Int) (n d:Nat):(if v < 0 then max (v+(n:Int)) 0 else min v (n:Int))=((sIx n d (some v):Nat):Int):=by
 show (if v < 0 then max (v+(n:Int)) 0 else min v (n:Int))=(((if v < 0 then (v+(n:Int)).toNat else min v.toNat n):Nat):Int)
 by_cases hv:v < 0
 ·simp only [if_pos hv];omega
 ·simp only [if_neg hv];omega
theorem zOv (lo hi:Option Int) (n:Nat):Builtin.Slice.sliceAdjust lo hi 1 (n:Int)=(((sIx n 0 lo:Nat):Int),((sIx n n hi:Nat):Int)):=by
 have h1 : ¬ ((1:Int) < 0):=by omega
 unfold Builtin.Slice.sliceAdjust
 simp only [h1,if_false]
 refine Prod.ext ?_ ?_
 ·cases lo with
  | none=>rfl
  | some v=>exact zPY v n 0
 ·cases hi with
  | none=>rfl
  | some v=>exact zPY v n n
theorem zPJ (i j:Nat):Builtin.Slice.slicePlaces (i:Int) (j:Int) 1=j - i:=by
 unfold Builtin.Slice.slicePlaces
 have h1:(1:Int) > 0:=by omega
 simp only [h1,if_true,Int.ediv_one]
 split <;> omega
theorem zKf {v:Value} {o:Option Int} {Q:Option Int→Shared→Prop} (p:IsPart v o) (h:Q o s):wpAny (model prog w) A (Builtin.Slice.slicePartIndex v) Q E s:=by
 cases p with
 | none=>exact slicePart_none h
 | int i t=>exact slicePart_int h
theorem zJG {sl:Addr} {vl vu:Value} {lo hi:Option Int} {n:Nat} {Q:Int × Int × Nat→Shared→Prop} (hs:s.heap.IsSliceOf sl vl vu .none) (pl:IsPart vl lo) (pu:IsPart vu hi)
  (h:Q (((sIx n 0 lo:Nat):Int),1,sIx n n hi - sIx n 0 lo) s):wpAny (model prog w) A (Builtin.Slice.sliceApplied (.ref sl) (pure (n:Int))) Q E s:=by
 obtain ⟨os,hos,hcs,hds⟩:=id hs
 unfold Builtin.Slice.sliceApplied Builtin.Slice.sliceFields
 refine wpAny_bind (wpAny_bind (wpAny_field hos hds (x:=vl) rfl (wpAny_bind (wpAny_field hos hds (x:=vu) rfl (wpAny_bind (wpAny_field hos hds (x:=.none) rfl (wpAny_pure ?_)))))))
 refine wpAny_bind (slicePart_none ?_)
 show wpAny _ _ (if ((1:Int) == 0)=true then _ else _) _ _ s
 rw [if_neg (by decide)]
 refine wpAny_bind (zKf pl (wpAny_bind (zKf pu (wpAny_bind (wpAny_pure ?_)))))
 show wpAny _ _ (match Builtin.Slice.sliceAdjust lo hi 1 (n:Int) with | (lo,hi)=>pure (lo,(1:Int),Builtin.Slice.slicePlaces lo hi 1)) _ _ s
 rw [zOv lo hi n]
 show wpAny _ _ (pure (((sIx n 0 lo:Nat):Int),(1:Int),Builtin.Slice.slicePlaces ((sIx n 0 lo:Nat):Int) ((sIx n n hi:Nat):Int) 1)) _ _ s
 rw [zPJ]
 exact wpAny_pure h
theorem zRx (xs:Array Value) (i k:Nat):((List.range k).filterMap fun (m:Nat)=>xs[((i:Int)+(m:Int)*1).toNat]?).toArray=((xs.toList.drop i).take k).toArray:=by
 have e:(fun (m:Nat)=>xs[((i:Int)+(m:Int)*1).toNat]?)=fun m=>xs[i+m]?:=by
  funext m
  have:((i:Int)+(m:Int)*1).toNat=i+m:=by omega
  rw [this]
 rw [e]
 have:=pick_run xs i k
 rw [List.filterMap_map] at this
 have e2:((fun x=>xs[x]?) ∘ fun x=>i+x)=fun m=>xs[i+m]?:=rfl
 rw [e2] at this
 rw [this]
theorem getItem_tuple_cut {t sl:Addr} {items:Array Value} {vl vu:Value} {lo hi:Option Int} {Q:Value→Shared→Prop} (ht:IsTup s.heap t items) (hs:s.heap.IsSliceOf sl vl vu .none) (pl:IsPart vl lo) (pu:IsPart vu hi)
  (hw : ¬ (sIx items.size 0 lo=0∧sIx items.size items.size hi=items.size))
  (h:Q (.ref s.heap.objs.size) { s with heap:=s.heap.push { cls:=.type "tuple", data:=.seq ((items.toList.drop (sIx items.size 0 lo)).take (sIx items.size items.size hi - sIx items.size 0 lo)).toArray } })
  (hsz:items.size≤sizeLine):wpAny (model prog w) A (getItem (.ref t) (.ref sl)) Q E s:=by
 have htake:sizeOk (.seq ((items.toList.drop (sIx items.size 0 lo)).take (sIx items.size items.size hi - sIx items.size 0 lo)).toArray):=by
  show ((items.toList.drop (sIx items.size 0 lo)).take (sIx items.size items.size hi - sIx items.size 0 lo)).toArray.size≤sizeLine
  rw [List.size_toArray,List.length_take,List.length_drop,Array.length_toList]
  omega
 have hj:sIx items.size items.size hi≤items.size:=zVK _ _ (Nat.le_refl _) hi
 obtain ⟨os,hos,hcs,hds⟩:=id hs
 have hTs:s.TypeIs (.ref sl) "slice" := ⟨os,hos,hcs⟩
 unfold getItem
 try with_reducible refine wpAny_holding ?_
 first | refine wpAny_bind (wpAny_pure ?_) | skip
 refine wpAny_bind (wpAny_sequenceKey ht.typeIs (by decide) ?_)
 refine wpAny_bind (wpAny_callSpecial?_slot (name:=Str.ofString "__getitem__") ht.typeIs PyProof.Rows.slot_tuple_getitem
  (wpAny_call_entry PyProof.Rows.slot_tuple_getitem ht.typeIs entry_tuple_getitem ?_ (args_tuple_getitem _ _)))
 show wpAny _ _ (Builtin.Tuple.tupleItemsOf (.ref t) >>= _) _ _ s
 refine wpAny_bind (tupleItemsOf_ ht ?_)
 refine wpAny_bind (wpAny_typeOf hTs ?_)
 rw [if_pos (by decide)]
 refine wpAny_bind (zJG hs pl pu ?_)
 have hno : ¬ ((((sIx items.size 0 lo:Nat):Int) == 0 && (1:Int) == 1 && (sIx items.size items.size hi - sIx items.size 0 lo) == items.size)=true):=by
  intro q
  rw [Bool.and_eq_true,Bool.and_eq_true] at q
  have q1:((sIx items.size 0 lo:Nat):Int)=0:=eq_of_beq q.1.1
  have q2:sIx items.size items.size hi - sIx items.size 0 lo=items.size:=eq_of_beq q.2
  exact hw ⟨by omega,by omega⟩
 show wpAny _ _ (if (((sIx items.size 0 lo:Nat):Int) == 0 && (1:Int) == 1 && (sIx items.size items.size hi - sIx items.size 0 lo) == items.size)=true then _ else _) _ _ s
 rw [if_neg hno,zRx]
 first
  | exact wpAny_bind (m:=Builtin.Tuple.tupleExact _) (wpAny_newObj_type (wpAny_pure ⟨_,rfl,wpAny_pure h⟩) htake)
  | exact wpAny_bind (m:=Builtin.Tuple.tupleExact _) (wpAny_newObj_type (wpAny_bind (wpAny_pure (wpAny_pure ⟨_,rfl,wpAny_pure h⟩))) htake)
  | exact wpAny_bind (wpAny_bind (m:=Builtin.Tuple.tupleExact _) (wpAny_newObj_type (wpAny_pure (wpAny_pure ⟨_,rfl,wpAny_pure h⟩)) htake))
  | exact wpAny_bind (wpAny_bind (m:=Builtin.Tuple.tupleExact _) (wpAny_newObj_type (wpAny_pure ⟨_,rfl,wpAny_pure h⟩) htake))
end
end HT
namespace L2
open PySem PySem.Spec PyProof.Rows
abbrev TO:=St→Hp→(Option Int→Hp→Prop)→Prop
def PO (X:Cx) (e:Option Expr) (t:TO):Prop:=
 ∀ (pins:List (Addr × Obj)) (s:Shared) (σ:St) (H:Hp) (Q:Option Int→Hp→Prop),Inv X pins σ H s→t σ H Q →
  wpAny (model X.prog X.w) X.A (evalPart e X.env) (fun u s'=>∃ o H',Inv X pins σ H' s'∧IsPart u o∧Q o H') X.xe s
def zP2:TO:=fun _ H Q=>Q none H
def zVw (t:TE):TO:=fun σ H Q=>t σ H fun x H1=>∃ i,x = .int i∧Q (some i) H1
theorem zOR {ns : List Int} : ∀ {us : List Value}, Vals (ns.map V.int) us → IntsAre us ns := by
  induction ns with
  | nil => intro us r; rw [List.map_nil] at r; cases r; exact .nil
  | cons n ns ih =>
    intro us r
    rw [List.map_cons] at r
    cases r with
    | cons r1 r2 =>
      obtain ⟨t, e⟩ := r1
      subst e
      exact .cons n t (ih r2)
section
variable {X : Cx} {e : Expr} {te : TE} {lo hi : Option Expr} {tl th : TO} {pos p2 : Pos}
theorem zCa:PO X none zP2:=by
 intro pins s σ H Q I h
 rw [evalPart_none]
 exact wpAny_pure ⟨none,H,I,.none,h⟩
theorem zBI (h:PE X e te):PO X (some e) (zVw te):=by
 intro pins s σ H Q I hw
 rw [evalPart_some]
 refine thn (h pins s σ H _ I hw) fun u s1 ⟨x,H1,I1,r1,q1⟩=>?_
 obtain ⟨i,rfl,q⟩:=q1
 obtain ⟨t,rfl⟩:=r1
 exact ⟨some i,H1,I1,.int i t,q⟩
def SlR (X:Cx) (r:V→Option Int→Option Int→Hp→VK→Prop):Prop:=
 ∀ (pins:List (Addr × Obj)) (s:Shared) (σ:St) (H:Hp) (x:V) (v vl vu:Value) (lo hi:Option Int) (sl:Addr) (Q:VK),Inv X pins σ H s→RelV x v→s.heap.IsSliceOf sl vl vu .none→IsPart vl lo→IsPart vu hi→r x lo hi H Q →
  ∃ T id,typeLookup (.type T) "__getitem__" = pure (some (.builtin id))∧s.TypeIs v T∧wpAny (model X.prog X.w) X.A (getItem v (.ref sl)) (EP X pins σ Q) X.xe s
def tSl (r:V→Option Int→Option Int→Hp→VK→Prop) (te:TE) (tl th:TO):TE:=fun σ H Q=>te σ H fun x H1=>tl σ H1 fun l H2=>th σ H2 fun u H3=>r x l u H3 Q
theorem zBR {r:V→Option Int→Option Int→Hp→VK→Prop} (hr:SlR X r) (he:PE X e te) (hl:PO X lo tl) (hu:PO X hi th):PE X (.Subscript e (.Slice lo hi none p2) pos) (tSl r te tl th):=by
 intro pins s σ H Q I h
 refine Subscript_ (thn (he pins s σ H _ I h) fun v s1 ⟨x,H1,I1,r1,q1⟩=>?_)
 refine wpAny_Slice (thn (hl pins s1 σ H1 _ I1 q1) fun vl s2 ⟨l,H2,I2,pl,q2⟩=>thn (hu pins s2 σ H2 _ I2 q2) fun vu s3 ⟨u,H3,I3,pu,q3⟩=>?_)
 rw [evalPart_none]
 refine wpAny_pure ?_
 have I4:Inv X pins σ H3 { s3 with heap:=s3.heap.push { cls:=.type "slice", data:=.fields #[vl,vu,.none] } }:=I3.kept (t':=s3.toks) fun b ob q=>Heap.get?_push_of_some _ q
 obtain ⟨T,id,hT,ht,hg⟩:=hr pins { s3 with heap:=s3.heap.push { cls:=.type "slice", data:=.fields #[vl,vu,.none] } } σ H3 x v vl vu l u s3.heap.objs.size Q I4 r1 (Heap.IsSliceOf.new ..) pl pu q3
 show wpAny (model X.prog X.w) X.A (subscriptTail e (.Slice lo hi none p2) v (.ref s3.heap.objs.size)) (EP X pins σ Q) X.xe { s3 with heap:=s3.heap.push { cls:=.type "slice", data:=.fields #[vl,vu,.none] } }
 exact tail_any (ops:=[.ref s3.heap.objs.size,v]) ht hT hg (by with_unfolding_all rfl)
def cutV (xs:List V) (lo hi:Option Int):List V:=(xs.drop (HT.sIx xs.length 0 lo)).take (HT.sIx xs.length xs.length hi - HT.sIx xs.length 0 lo)
theorem zJY (xs:List V) (lo hi:Option Int):(cutV xs lo hi).length≤xs.length:=by
 unfold cutV
 rw [List.length_take,List.length_drop]
 omega
def rSlT (K:W.Frag):V→Option Int→Option Int→Hp→VK→Prop:=fun x lo hi H Q=>∃ a xs,x = .ref a∧SqT K H a xs ∧
 ¬ (HT.sIx xs.length 0 lo=0∧HT.sIx xs.length xs.length hi=xs.length) ∧ ∀ p,H p=none→Q (.ref p) (upd H p (.tup (cutV xs lo hi)))
theorem zKa:SlR X (rSlT X.K):=by
 intro pins s σ H x v vl vu lo hi sl Q I rx hs pl pu h
 obtain ⟨a,xs,rfl,hx,hw,q⟩:=h
 cases rx
 obtain ⟨its,r,ht,hz⟩:=I.tuple hx
 have hlen:its.toArray.size=xs.length:=by rw [List.size_toArray];exact r.length.symm
 refine ⟨"tuple", _,PyProof.Rows.slot_tuple_getitem.lookup,ht.typeIs,?_⟩
 refine HT.getItem_tuple_cut ht hs pl pu (by rw [hlen];exact hw) ?_ (by rw [hlen];exact hz)
 rw [hlen]
 refine ⟨.ref s.heap.objs.size,_,I.laid (t':=s.toks) (o:=.tup (cutV xs lo hi)) (fun b ob q=>Heap.get?_push_of_some _ q) (Nat.le_refl _) ?_,rfl,q _ (I.hok.fresh (Nat.le_refl _))⟩
 exact ⟨Nat.le_trans (zJY xs lo hi) hz,_,(r.drop (HT.sIx xs.length 0 lo)).take (HT.sIx xs.length xs.length hi - HT.sIx xs.length 0 lo),IsTup.new _ _⟩
def zRz (K:W.Frag):R2:=fun x y H Q=>∃ a b xs ys,x = .ref a∧y = .ref b∧SqT K H a xs∧SqT K H b ys∧xs≠[]∧xs.length+ys.length≤sizeLine ∧
 (ys=[]→Q (.ref a) H)∧(ys≠[] → ∀ p,H p=none→Q (.ref p) (upd H p (.tup (xs++ys))))
theorem Vals.nil_iff {xs:List V} {us:List Value} (r:Vals xs us):us=[]↔xs=[]:=by
 cases r with
 | nil=>simp
 | cons _ _=>simp
theorem zPz:OpR X (binaryOp .Add) (zRz X.K):=by
 intro pins s σ H x y v u Q I rx ry h
 obtain ⟨a,b,xs,ys,rfl,rfl,ha,hb,hx,hz,q1,q2⟩:=h
 cases rx
 cases ry
 obtain ⟨its,r1,p1,_⟩:=I.tuple ha
 obtain ⟨its2,r2,p2,_⟩:=I.tuple hb
 refine HT.cat_tup p1 p2 (fun z=>hx (r1.nil_iff.mp z)) (fun z=>⟨.ref a,H,I,rfl,q1 (r2.nil_iff.mp z)⟩) (fun z=>?_) (by rw [← r1.length,← r2.length];exact hz)
 refine ⟨.ref s.heap.objs.size,_,I.laid (t':=s.toks) (o:=.tup (xs++ys)) (fun b ob q=>Heap.get?_push_of_some _ q) (Nat.le_refl _) ?_,rfl,q2 (fun w=>z (r2.nil_iff.mpr w)) _ (I.hok.fresh (Nat.le_refl _))⟩
 exact ⟨by rw [List.length_append];exact hz,_,r1.append r2,IsTup.new _ _⟩
end
def ixN (n:Nat) (i:Int):Option Nat:=if 0≤i then (if i < n then some i.toNat else none) else if -(n:Int)≤i then some (i+n).toNat else none
def atI {α:Type} (xs:List α) (i:Int):Option α:=(ixN xs.length i).bind fun j=>xs[j]?
theorem zTX {n:Nat} {i:Int} {j:Nat} (h:ixN n i=some j):seqIndex? i n=some j∧j < n ∧ -(n:Int)≤i∧i < n:=by
 unfold ixN at h
 by_cases h0:0≤i
 ·rw [if_pos h0] at h
  by_cases h1:i < n
  ·rw [if_pos h1] at h
   have e:i.toNat=j:=Option.some.inj h
   exact ⟨by rw [seqIndex_of h0 h1,e],by omega,by omega,h1⟩
  ·rw [if_neg h1] at h;cases h
 ·rw [if_neg h0] at h
  by_cases h1 : -(n:Int)≤i
  ·rw [if_pos h1] at h
   have e:(i+n).toNat=j:=Option.some.inj h
   exact ⟨by rw [seqIndex_neg (by omega) h1,e],by omega,h1,by omega⟩
  ·rw [if_neg h1] at h;cases h
theorem zNd {α : Type} {xs : List α} {i : Int} {v : α} (h : atI xs i = some v) : ∃ j, seqIndex? i xs.length = some j ∧ xs[j]? = some v ∧ j < xs.length ∧ -(xs.length : Int) ≤ i ∧ i < xs.length := by
  unfold atI at h
  cases e : ixN xs.length i with
  | none => rw [e] at h; cases h
  | some j =>
    rw [e] at h
    obtain ⟨h1, h2, h3, h4⟩ := zTX e
    exact ⟨j, h1, h, h2, h3, h4⟩
theorem zTw {α:Type} {xs:List α} {j:Nat} {v:α} (h:xs[j]? = some v):atI xs (j:Int)=some v:=by
 have hj:j < xs.length:=(List.getElem?_eq_some_iff.mp h).1
 have e:ixN xs.length (j:Int)=some j:=by
  unfold ixN
  rw [if_pos (by omega),if_pos (by omega)];simp
 unfold atI;rw [e];exact h
def zUU (b:Expr):Prop:=∀ o i,subscripted b false o i=operate [o,i] (getItem o i)
def IxR (X:Cx) (r:R2):Prop:=
 ∀ (value slice:Expr) (pins:List (Addr × Obj)) (s:Shared) (σ:St) (H:Hp) (x y:V) (v u:Value) (Q:VK),Inv X pins σ H s→RelV x v→RelV y u→r x y H Q →
  subscripted slice false v u=operate [v,u] (getItem v u)→wpAny (model X.prog X.w) X.A (subscriptTail value slice v u) (EP X pins σ Q) X.xe s
def MtR (X:Cx) (id:String) (r:V→List V→Hp→VK→Prop):Prop:=
 ∀ (pins:List (Addr × Obj)) (s:Shared) (σ:St) (H:Hp) (x:V) (xs:List V) (v:Value) (us:List Value) (Q:VK),Inv X pins σ H s→RelV x v→Vals xs us→r x xs H Q →
  wpAny (model X.prog X.w) X.A (call (.builtin id) (v::us)) (EP X pins σ Q) X.xe s
section
variable {X : Cx} {a b : Expr} {ta tb : TE} {pos : Pos}
theorem zAX {r:R2} (hr:IxR X r) (ha:PE X a ta) (hb:PE X b tb) (hs:zUU b):PE X (.Subscript a b pos) (tOp r ta tb):=by
 intro pins s σ H Q I h
 exact Subscript_ (binT ha hb I h fun v u s2 x y H2 I2 rx ry q=>hr a b pins s2 σ H2 x y v u Q I2 rx ry q (hs _ _))
def rIxL (K:W.Frag):R2:=fun x y H Q=>∃ p xs i v,x = .ref p∧y = .int i∧SqL K H p xs∧atI xs i=some v∧Q v H
def rIxT (K:W.Frag):R2:=fun x y H Q=>∃ p xs i v,x = .ref p∧y = .int i∧SqT K H p xs∧atI xs i=some v∧Q v H
def rIxS:R2:=fun x y H Q=>∃ z i c,x = .str z∧y = .int i∧z.length≤sizeLine∧atI z.cps.toList i=some c∧Q (.str ⟨#[c]⟩) H
theorem zBF:IxR X (rIxL X.K):=by
 intro value slice pins s σ H x y v u Q I rx ry h hs
 obtain ⟨p,xs,i,z,rfl,rfl,hq,he,q⟩:=h
 cases rx
 obtain ⟨t,rfl⟩:=ry
 obtain ⟨its,r,pl,hz⟩:=I.list hq
 obtain ⟨j,h1,h2,h3,h4,h5⟩:=zNd he
 obtain ⟨w,ew,rw'⟩:=r.get h2
 have hl:=r.length
 have hn:=zLx
 have fin:EP X pins σ Q w s:=⟨z,H,I,rw',q⟩
 by_cases h0:0≤i
 ·have hj:i.toNat=j:=by
   rw [seqIndex_of h0 h5] at h1
   exact Option.some.inj h1
  exact item_listR pl.isList h0 (by omega) (by rw [hj];simpa using ew) fin hs
 ·have hj:(i+(its.toArray.size:Int)).toNat=j:=by
   rw [seqIndex_neg (by omega) h4] at h1
   rw [List.size_toArray,← hl]
   exact Option.some.inj h1
  exact subscriptTail_builtinR (x:=w) pl.isList.typeIs slot_list_getitem.lookup
   (wpAny_getItem_list_neg (Q:=fun r s'=>r=w∧EP X pins σ Q r s') pl.isList (by omega) (by rw [List.size_toArray] <;> omega) (by omega) (by rw [hj];simpa using ew) ⟨rfl,fin⟩) hs
theorem zAa:IxR X (rIxT X.K):=by
 intro value slice pins s σ H x y v u Q I rx ry h hs
 obtain ⟨p,xs,i,z,rfl,rfl,hq,he,q⟩:=h
 cases rx
 obtain ⟨t,rfl⟩:=ry
 obtain ⟨its,r,pl,hz⟩:=I.tuple hq
 obtain ⟨j,h1,h2,h3,h4,h5⟩:=zNd he
 obtain ⟨w,ew,rw'⟩:=r.get h2
 have hl:=r.length
 have hn:=zLx
 have fin:EP X pins σ Q w s:=⟨z,H,I,rw',q⟩
 exact subscriptTail_builtinR (x:=w) pl.typeIs slot_tuple_getitem.lookup
  (getItem_tuple (j:=j) (Q:=fun r s'=>r=w∧EP X pins σ Q r s') pl (by omega) (by omega) (by rw [List.size_toArray,← hl];exact h1) (by simpa using ew) ⟨rfl,fin⟩) hs
theorem zDS:IxR X rIxS:=by
 intro value slice pins s σ H x y v u Q I rx ry h hs
 obtain ⟨z,i,c,rfl,rfl,hz,he,q⟩:=h
 obtain ⟨t,rfl⟩:=rx
 obtain ⟨t',rfl⟩:=ry
 obtain ⟨j,h1,h2,h3,h4,h5⟩:=zNd he
 have hl:z.cps.toList.length=z.length:=by simp [Str.length]
 rw [hl] at h1 h4 h5
 have hn:=zLx
 exact tail_any (typeIs_str s z t) slot_str_getitem.lookup (getItem_str (c:=c) (by
  have e1:decide (i < -(2 ^ 63:Int))=false:=decide_eq_false (by omega)
  have e2:decide (i ≥ 2 ^ 63)=false:=decide_eq_false (by omega)
  rw [e1,e2,Bool.or_false]) (by rw [h1];simpa using h2) ⟨.str ⟨#[c]⟩,H,I.tok _,⟨_,rfl⟩,q⟩) hs
theorem Inv.lst {pins:List (Addr × Obj)} {σ:St} {H:Hp} {s:Shared} {p:Addr} {xs:List V} (I:Inv X pins σ H s) (h:H p=some (.lst xs)) :
  ∃ (its:List Value) (n:Nat),Vals xs its∧s.heap.get? p=some { cls:=.type "list", data:=.seq its.toArray n }∧xs.length≤sizeLine:=by
 obtain ⟨z,its,n,r,e⟩:=I.hok p _ h
 exact ⟨its,n,r,e,z⟩
theorem zLq (lo hi : Option Int) (n : Nat) : (sliceBounds lo hi none n).1 = ((HT.sIx n 0 lo : Nat) : Int) ∧ (sliceBounds lo hi none n).2.1 = ((HT.sIx n n hi : Nat) : Int) ∧ (sliceBounds lo hi none n).2.2 = 1 := by
  refine ⟨?_, ?_, rfl⟩
  · cases lo with
    | none => simp [sliceBounds, HT.sIx]
    | some i =>
      simp only [sliceBounds, HT.sIx, Option.getD_none, show (1 : Int) > 0 by decide, if_true]
      by_cases h : i < 0
      · simp only [h, if_true] <;> omega
      · simp only [h, if_false] <;> omega
  · cases hi with
    | none => simp [sliceBounds, HT.sIx]
    | some i =>
      simp only [sliceBounds, HT.sIx, Option.getD_none, show (1 : Int) > 0 by decide, if_true]
      by_cases h : i < 0
      · simp only [h, if_true] <;> omega
      · simp only [h, if_false] <;> omega
theorem zLN (its:List Value) (lo hi:Option Int):slicePick its.toArray lo hi none=((its.drop (HT.sIx its.length 0 lo)).take (HT.sIx its.length its.length hi - HT.sIx its.length 0 lo)).toArray:=by
 obtain ⟨h1,h2,h3⟩:=zLq lo hi its.toArray.size
 unfold slicePick
 rw [h1,h2,h3]
 simp only [sliceRange_one,pick_run,List.size_toArray] <;> rfl
def rSlL (K:W.Frag):V→Option Int→Option Int→Hp→VK→Prop:=fun x lo hi H Q=>∃ a xs,x = .ref a∧SqL K H a xs ∧ ∀ p,H p=none→Q (.ref p) (upd H p (.lst (cutV xs lo hi)))
theorem zPy:SlR X (rSlL X.K):=by
 intro pins s σ H x v vl vu lo hi sl Q I rx hs pl pu h
 obtain ⟨a,xs,rfl,hx,q⟩:=h
 cases rx
 obtain ⟨its,r,ht,hz⟩:=I.list hx
 have hlen:=r.length
 refine ⟨"list", _,slot_list_getitem.lookup,ht.isList.typeIs,?_⟩
 refine wpAny_getItem_list_slice ht.isList hs pl pu .none (by simp) ?_ (by rw [List.size_toArray] <;> omega)
 rw [zLN,← hlen]
 refine ⟨.ref s.heap.objs.size,_,I.laid (t':=s.toks) (o:=.lst (cutV xs lo hi)) (fun b ob q=>Heap.get?_push_of_some _ q) (Nat.le_refl _) ?_,rfl,q _ (I.hok.fresh (Nat.le_refl _))⟩
 exact ⟨Nat.le_trans (zJY xs lo hi) hz,_,0,(r.drop (HT.sIx xs.length 0 lo)).take (HT.sIx xs.length xs.length hi - HT.sIx xs.length 0 lo),Heap.get?_push_size _ rfl⟩
def zKK:V→Bool
 | .non=>true
 | .bl _=>true
 | .int _=>true
 | .str _=>true
 | _=>false
def eqV:V→V→Bool
 | .non,.non=>true
 | .bl a,.bl b=>a == b
 | .bl a,.int b=>(if a then 1 else 0) == b
 | .int a,.bl b=>a == (if b then 1 else 0)
 | .int a,.int b=>a == b
 | .str a,.str b=>a == b
 | _,_=>false
theorem zWN {A : Around} {s : Shared} {y x : V} {u v : Value} (ry : RelV y u) (rx : RelV x v) (fy : zKK y = true) (fx : zKK x = true) : SeqAt.EqAt A s u v (eqV y x) := by
  cases y with
  | non =>
    cases ry
    cases x with
    | non => cases rx; exact SeqAt.EqAt.same _
    | bl b => cases rx; exact SeqAt.EqAt.none_bool b
    | int b => obtain ⟨t, rfl⟩ := rx; exact SeqAt.EqAt.none_int b t
    | str b => obtain ⟨t, rfl⟩ := rx; exact SeqAt.EqAt.none_str b t
    | _ => exact absurd (show false = true from fx) Bool.false_ne_true
  | bl a =>
    cases ry
    cases x with
    | non => cases rx; exact SeqAt.EqAt.bool_none a
    | bl b => cases rx; exact SeqAt.EqAt.bool_bool a b
    | int b => obtain ⟨t, rfl⟩ := rx; exact SeqAt.EqAt.bool_int a b t
    | str b => obtain ⟨t, rfl⟩ := rx; exact SeqAt.EqAt.bool_str a b t
    | _ => exact absurd (show false = true from fx) Bool.false_ne_true
  | int a =>
    obtain ⟨t', rfl⟩ := ry
    cases x with
    | non => cases rx; exact SeqAt.EqAt.int_none a t'
    | bl b => cases rx; exact SeqAt.EqAt.int_bool a t' b
    | int b => obtain ⟨t, rfl⟩ := rx; exact SeqAt.EqAt.int_int a t' b t
    | str b => obtain ⟨t, rfl⟩ := rx; exact SeqAt.EqAt.int_str a t' b t
    | _ => exact absurd (show false = true from fx) Bool.false_ne_true
  | str a =>
    obtain ⟨t', rfl⟩ := ry
    cases x with
    | non => cases rx; exact SeqAt.EqAt.str_none a t'
    | bl b => cases rx; exact SeqAt.EqAt.str_bool a t' b
    | int b => obtain ⟨t, rfl⟩ := rx; exact SeqAt.EqAt.str_int a t' b t
    | str b => obtain ⟨t, rfl⟩ := rx; exact SeqAt.EqAt.str_str a t' b t
    | _ => exact absurd (show false = true from fx) Bool.false_ne_true
  | _ => exact absurd (show false = true from fy) Bool.false_ne_true
def eqU (x:V) (u:Value):Bool:=match u with
 | .none=>eqV .non x
 | .bool b=>eqV (.bl b) x
 | .int i _=>eqV (.int i) x
 | .str z _=>eqV (.str z) x
 | _=>false
theorem zSt {x y:V} {u:Value} (r:RelV y u) (f:zKK y=true):eqU x u=eqV y x:=by
 cases y with
 | non=>cases r;rfl
 | bl b=>cases r;rfl
 | int i=>obtain ⟨t,rfl⟩:=r;rfl
 | str z=>obtain ⟨t,rfl⟩:=r;rfl
 | _=>exact absurd (show false=true from f) Bool.false_ne_true
theorem zJm {x : V} : ∀ {xs : List V} {us : List Value}, Vals xs us → xs.all zKK = true → us.any (eqU x) = xs.any fun y => eqV y x
  | _, _, .nil, _ => rfl
  | y :: xs, u :: us, .cons r t, f => by
    rw [List.all_cons, Bool.and_eq_true] at f
    rw [List.any_cons, List.any_cons, zSt r f.1, zJm t f.2]
theorem zHE {A : Around} {s : Shared} {x : V} {v : Value} (rx : RelV x v) (fx : zKK x = true) : ∀ {xs : List V} {us : List Value}, Vals xs us → xs.all zKK = true → ∀ u ∈ us, SeqAt.EqAt A s u v (eqU x u)
  | _, _, .nil, _ => fun u hu => by cases hu
  | y :: xs, u :: us, .cons r t, f => fun u' hu => by
    rw [List.all_cons, Bool.and_eq_true] at f
    rcases List.mem_cons.mp hu with rfl | hu
    · rw [zSt r f.1]; exact zWN r rx f.1 fx
    · exact zHE rx fx t f.2 u' hu
def inV (x:V) (xs:List V):Bool:=xs.any fun y=>eqV y x
def rIn (K:W.Frag) (neg:Bool):R2:=fun x y H Q=>∃ p xs,y = .ref p∧(SqL K H p xs∨SqT K H p xs)∧zKK x=true∧xs.all zKK=true∧Q (.bl (if neg then !inV x xs else inV x xs)) H
theorem zQJ:OpR X (compareOp .In) (rIn X.K false):=by
 intro pins s σ H x y v u Q I rx ry h
 obtain ⟨p,xs,rfl,hq,fx,fs,q⟩:=h
 cases ry
 rcases hq with hq | hq
 ·obtain ⟨its,r,pl,hz⟩:=I.list hq
  refine SeqAt.in_listAt (eqU x) pl.isList (fun w hw=>zHE rx fx r fs w (by simpa using hw)) ⟨.bl _,H,I,rfl,?_⟩
  rw [show its.toArray.any (eqU x)=its.any (eqU x) by simp,zJm r fs]
  exact q
 ·obtain ⟨its,r,pl,hz⟩:=I.tuple hq
  refine SeqAt.in_tupleAt (eqU x) pl (fun w hw=>zHE rx fx r fs w (by simpa using hw)) ⟨.bl _,H,I,rfl,?_⟩
  rw [show its.toArray.any (eqU x)=its.any (eqU x) by simp,zJm r fs]
  exact q
theorem zMP:OpR X (compareOp .NotIn) (rIn X.K true):=by
 intro pins s σ H x y v u Q I rx ry h
 obtain ⟨p,xs,rfl,hq,fx,fs,q⟩:=h
 cases ry
 rcases hq with hq | hq
 ·obtain ⟨its,r,pl,hz⟩:=I.list hq
  refine SeqAt.notIn_listAt (eqU x) pl.isList (fun w hw=>zHE rx fx r fs w (by simpa using hw)) ⟨.bl _,H,I,rfl,?_⟩
  rw [show its.toArray.any (eqU x)=its.any (eqU x) by simp,zJm r fs]
  exact q
 ·obtain ⟨its,r,pl,hz⟩:=I.tuple hq
  refine SeqAt.notIn_tupleAt (eqU x) pl (fun w hw=>zHE rx fx r fs w (by simpa using hw)) ⟨.bl _,H,I,rfl,?_⟩
  rw [show its.toArray.any (eqU x)=its.any (eqU x) by simp,zJm r fs]
  exact q
theorem zL6:zGH X (.builtin "len") (fun xs H Q=>∃ p ys,xs=[.ref p]∧(SqL X.K H p ys∨SqT X.K H p ys)∧Q (.int ys.length) H):=by
 intro pins s σ H xs us Q I r h
 obtain ⟨p,ys,rfl,hq,q⟩:=h
 obtain ⟨u,rfl,rx⟩:=zO7 r
 cases rx
 have hn:=zLx
 rcases hq with hq | hq
 ·obtain ⟨its,r',pl,hz⟩:=I.list hq
  have hlen:=r'.length
  exact Calls.call_len_list pl.isList (by simp only [List.size_toArray] <;> omega) ⟨.int ys.length,H,I.tok _,⟨s.toks+1,by rw [List.size_toArray,hlen]⟩,q⟩
 ·obtain ⟨its,r',pl,hz⟩:=I.tuple hq
  have hlen:=r'.length
  exact len_tuple pl (by simp only [List.size_toArray] <;> omega) ⟨.int ys.length,H,I.tok _,⟨s.toks+1,by rw [List.size_toArray,hlen]⟩,q⟩
theorem zMC:zGH X (.builtin "len") (fun xs H Q=>∃ z,xs=[.str z]∧z.length≤sizeLine∧Q (.int z.length) H):=by
 intro pins s σ H xs us Q I r h
 obtain ⟨z,rfl,hz,q⟩:=h
 obtain ⟨u,rfl,t,rfl⟩:=zO7 r
 have hn:=zLx
 exact len_str (by omega) ⟨.int z.length,H,I.tok _,⟨_,rfl⟩,q⟩
theorem zLg:zGH X (.type "list") (fun xs H Q=>∃ p ys,xs=[.ref p]∧(SqL X.K H p ys∨SqT X.K H p ys) ∧ ∀ l,H l=none→Q (.ref l) (upd H l (.lst ys))):=by
 intro pins s σ H xs us Q I r h
 obtain ⟨p,ys,rfl,hq,q⟩:=h
 obtain ⟨u,rfl,rx⟩:=zO7 r
 cases rx
 have fin : ∀ (its:List Value),Vals ys its→ys.length≤sizeLine → ∀ (h':Heap) (c':Nat),(∀ b o',s.heap.get? b=some o'→h'.get? b=some o') →
   h'.get? s.heap.objs.size=some { cls:=.type "list", dict:=none,data:=.seq its.toArray c',slots:=#[] }→EP X pins σ Q (.ref s.heap.objs.size) { s with heap:=h' }:=fun its r' hz h' c' kp e =>
  ⟨.ref s.heap.objs.size,_,I.laid (t':=s.toks) kp (Nat.le_refl _) (show zEp X.prog X.w _ h' _ (.lst ys) from ⟨hz,its,c',r',e⟩),rfl,q _ (I.hok.fresh (Nat.le_refl _))⟩
 rcases hq with hq | hq
 ·obtain ⟨its,r',pl,hz⟩:=I.list hq
  have hlen:=r'.length
  obtain ⟨o,ho,hc,n,hd⟩:=pl.isList
  exact call_list_seq p (.inl rfl) ho hc hd (fun h' c' kp e=>fin its r' hz h' c' kp e) (by simp only [List.size_toArray] <;> omega)
 ·obtain ⟨its,r',pl,hz⟩:=I.tuple hq
  have hlen:=r'.length
  obtain ⟨o,ho,hc,n,hd⟩:=pl
  exact call_list_seq p (.inr rfl) ho hc hd (fun h' c' kp e=>fin its r' hz h' c' kp e) (by simp only [List.size_toArray] <;> omega)
def tyV (K:W.Frag) (T:String) (x:V) (H:Hp):Prop:=match x with
 | .str _=>T = "str"
 | .int _=>T = "int"
 | .ref p=>(T = "list" ∧ ∃ xs,SqL K H p xs)∨(T = "tuple" ∧ ∃ o,K.lookup p=some o∧o.cls = .type "tuple" ∧ o.dict=none) ∨
   (T = "dict" ∧ ((∃ kvs,H p=some (.dK kvs)) ∨ ∃ kvs,H p=some (.dT kvs)))∨(T = "set" ∧ ∃ S n,H p=some (.set S n))
 | _=>False
theorem zSy {pins : List (Addr × Obj)} {σ : St} {H : Hp} {s : Shared} {T : String} {x : V} {v : Value} (I : Inv X pins σ H s) (r : RelV x v) (ty : tyV X.K T x H) :
    s.TypeIs v T ∧ ∀ a, v = .ref a → ∃ ob, s.heap.get? a = some ob ∧ ob.dict = none := by
  cases x with
  | str z =>
    obtain ⟨t, rfl⟩ := r
    cases (show T = "str" from ty)
    exact ⟨typeIs_str s z t, fun _ e => nomatch e⟩
  | int i =>
    obtain ⟨t, rfl⟩ := r
    cases (show T = "int" from ty)
    exact ⟨typeIs_int s i t, fun _ e => nomatch e⟩
  | ref p =>
    cases r
    rcases ty with ⟨rfl, xs, hq⟩ | ⟨rfl, o, hk, hc, hd⟩ | ⟨rfl, hk⟩ | ⟨rfl, S, n, hk⟩
    · obtain ⟨its, _, pl, _⟩ := I.list hq
      refine ⟨pl.isList.typeIs, fun a e => ?_⟩
      cases e
      obtain ⟨o, n, e, c, hd, _⟩ := pl
      exact ⟨o, e, hd⟩
    · refine ⟨⟨o, I.kIn p o hk, hc⟩, fun a e => ?_⟩
      cases e
      exact ⟨o, I.kIn _ o hk, hd⟩
    · have z : ∃ o, s.heap.get? p = some o ∧ o.ExactDict := by
        rcases hk with ⟨kvs, hk⟩ | ⟨kvs, hk⟩
        · obtain ⟨_, _, _, _, o, _, _, e, ex, _⟩ := I.hok p _ hk
          exact ⟨o, e, ex⟩
        · obtain ⟨_, _, _, _, o, _, _, e, ex, _⟩ := I.hok p _ hk
          exact ⟨o, e, ex⟩
      obtain ⟨o, e, ex⟩ := z
      refine ⟨⟨o, e, ex.1⟩, fun a e2 => ?_⟩
      cases e2
      exact ⟨o, e, ex.2.1⟩
    · obtain ⟨o, _, _, _, e, ex, _⟩ := I.hok p _ hk
      refine ⟨⟨o, e, ex.1⟩, fun a e2 => ?_⟩
      cases e2
      exact ⟨o, e, ex.2.1⟩
  | _ => exact False.elim ty
def tBM0 (K:W.Frag) (T:String) (r:V→List V→Hp→VK→Prop) (to:TE):TE:=fun σ H Q=>to σ H fun x H1=>tyV K T x H1∧r x [] H1 Q
def tBM (K:W.Frag) (T:String) (r:V→List V→Hp→VK→Prop) (to:TE) (t:TA):TE:=fun σ H Q=>to σ H fun x H1=>tyV K T x H1∧t σ H1 fun xs H2=>r x xs H2 Q
variable {o e : Expr} {es : List Expr} {to : TE} {t : TA} {name : Str} {apos cpos : Pos} {T id : String} {r : V → List V → Hp → VK → Prop}
theorem zS3 (pa:PlainAttrs T) (slot:Slot T name id) (hty:typeOf (.builtin id)=pure (.type "method_descriptor")) (hm:MtR X id r) (ho:PE X o to)
  (hbase:attributeBase o name X.env (eval o X.env)=eval o X.env:=by rfl) (hline:(apos.endLine == cpos.line)=true:=by rfl):PE X (.Call (.Attribute o name apos) [] [] cpos) (tBM0 X.K T r to):=by
 intro pins s σ H Q I h
 refine wpAny_Call_method0_late hbase hline (thn (ho pins s σ H _ I h) fun v s1 ⟨x,H1,I1,r1,ty,q1⟩=>?_)
 obtain ⟨h1,h2⟩:=zSy I1 r1 ty
 exact ⟨T,id,pa,slot,hty,h1,h2,Calls.callWith_builtin rfl (PySem.evalArgs_none (hm pins s1 σ H1 x [] v [] Q I1 r1 .nil q1))⟩
theorem zIJ (pa:PlainAttrs T) (slot:Slot T name id) (hty:typeOf (.builtin id)=pure (.type "method_descriptor")) (hm:MtR X id r) (ho:PE X o to) (ha:PA X (e::es) t)
  (hbase:attributeBase o name X.env (eval o X.env)=eval o X.env:=by rfl)
  (hfew:((backTo cpos (starEach (e::es) X.env)).all (fun x=>!x.1) && (backToKw cpos (keywordEach [] X.env)).all (fun x=>x.1.isSome)
   && decide ((e::es).length+([]:List Keyword).length+(if ([]:List Keyword).isEmpty then 0 else 1) < 30))=true:=by rfl)
  (hline:(apos.endLine == cpos.line)=true:=by rfl) (hs:starEach (e::es) X.env=(false,eval e X.env)::starEach es X.env:=by rfl) (hplain:(backTo cpos (starEach es X.env)).any (·.1)=false:=by rfl) :
  PE X (.Call (.Attribute o name apos) (e::es) [] cpos) (tBM X.K T r to t):=by
 intro pins s σ H Q I h
 refine wpAny_Call_method_late hbase hfew hline rfl (thn (ho pins s σ H _ I h) fun v s1 ⟨x,H1,I1,r1,ty,q1⟩=>?_)
 obtain ⟨h1,h2⟩:=zSy I1 r1 ty
 refine ⟨T,id,pa,slot,hty,h1,h2,?_⟩
 have hA:=ha cpos pins s1 σ H1 _ I1 q1
 rw [hs] at hA ⊢
 refine Calls.callWith_builtin (by show (false || (backTo cpos (starEach es X.env)).any (·.1))=false;rw [hplain] <;> rfl) (Calls.evalArgs_plain ?_)
 exact thn hA fun us s2 ⟨vs,H2,I2,r2,q2⟩=>hm pins s2 σ H2 x vs v us Q I2 r1 r2 q2
end
def MtM (X:Cx) (id:String) (r:V→List V→Hp→VK→Prop):Prop:=
 ∀ (pins:List (Addr × Obj)) (s:Shared) (σ:St) (H:Hp) (x:V) (xs:List V) (v:Value) (us:List Value) (Q:VK),Inv X pins σ H s→RelV x v→Vals xs us→r x xs H Q →
  wpAny (model X.prog X.w) X.A (call (.builtin id) (v::us)) (EP X pins σ Q) X.xe s
theorem Vals.one : ∀ {x:V} {us:List Value},Vals [x] us → ∃ u,us=[u]∧RelV x u
 | _,_,.cons r .nil=>⟨_,rfl,r⟩
theorem Vals.zero : ∀ {us:List Value},Vals [] us→us=[]
 | _,.nil=>rfl
theorem Vals.dropLast {xs : List V} {us : List Value} (h : Vals xs us) : Vals xs.dropLast us.dropLast := by
  induction h with
  | nil => exact .nil
  | cons r t ih =>
    cases t with
    | nil => exact .nil
    | cons q t' => exact .cons r ih
theorem Vals.eraseIdx : ∀ {xs:List V} {us:List Value} (i:Nat),Vals xs us→Vals (xs.eraseIdx i) (us.eraseIdx i)
 | _,_,_,.nil=>.nil
 | _,_,0,.cons _ t=>t
 | _,_,i+1,.cons r t=>.cons r (Vals.eraseIdx i t)
theorem Vals.reverse {xs:List V} {us:List Value} (h:Vals xs us):Vals xs.reverse us.reverse:=by
 induction h with
 | nil=>exact .nil
 | cons r t ih=>rw [List.reverse_cons,List.reverse_cons];exact Vals.append ih (.cons r .nil)
theorem Vals.rep {xs : List V} {us : List Value} (h : Vals xs us) : ∀ k : Nat, Vals (List.replicate k xs).flatten (List.replicate k us).flatten
  | 0 => .nil
  | k + 1 => by
    rw [List.replicate_succ, List.replicate_succ, List.flatten_cons, List.flatten_cons]
    exact Vals.append h (Vals.rep h k)
theorem zOs {α : Type} (l : List α) : l.eraseIdx (l.length - 1) = l.dropLast := by
  induction l with
  | nil => rfl
  | cons a r ih =>
    cases r with
    | nil => rfl
    | cons b r =>
      have e : (a :: b :: r).length - 1 = ((b :: r).length - 1) + 1 := by
        have h1 : (a :: b :: r).length = r.length + 2 := rfl
        have h2 : (b :: r).length = r.length + 1 := rfl
        omega
      rw [e, List.eraseIdx_cons_succ, ih]
      all_goals rfl
section
variable {X : Cx} {pins : List (Addr × Obj)} {σ : St} {H : Hp} {s : Shared} {l b : Addr} {xs ys zs : List V}
theorem Inv.lset {its its':List Value} {n:Nat} {f:Array Value→Array Value} {t':Nat} (I:Inv X pins σ H s) (hH:H l=some (.lst xs))
  (e:s.heap.get? l=some { cls:=.type "list", data:=.seq its.toArray n }) (hf:f its.toArray=its'.toArray) (hv:Vals ys its') (hz:ys.length≤sizeLine) :
  Inv X pins σ (upd H l (.lst ys)) { s with heap:=s.heap.update l (Obj.mapSeq f),toks:=t' }:=by
 have q:=PySem.IsL.update e f
 rw [hf] at q
 refine I.write (x:=l) (e:=l) (by rw [hH];exact trivial) (.inl rfl) (fun b' u hb hu=>(Heap.get?_update_other s.heap (Obj.mapSeq f) (Ne.symm hb)).trans hu) ⟨_,q⟩ ?_
 exact ⟨hz,its',_,hv,q⟩
theorem Inv.lnew {its:List Value} {t':Nat} (I:Inv X pins σ H s) (hv:Vals ys its) (hz:ys.length≤sizeLine) :
  Inv X pins σ (upd H s.heap.objs.size (.lst ys)) { s with heap:=s.heap.push { cls:=.type "list", data:=.seq its.toArray },toks:=t' }:=
 I.laid (fun _ _ q=>Heap.get?_push_of_some _ q) (Nat.le_refl _) ⟨hz,its,0,hv,Heap.get?_push_size _ rfl⟩
theorem Inv.fresh (I:Inv X pins σ H s):H s.heap.objs.size=none:=I.hok.fresh (Nat.le_refl _)
theorem Inv.lstM (I:Inv X pins σ H s) (hH:H l=some (.lst xs)):xs.length≤sizeLine ∧ ∃ (its:List Value) (n:Nat),Vals xs its∧xs.length=its.length∧s.heap.get? l=some { cls:=.type "list", data:=.seq its.toArray n }:=by
 obtain ⟨z,its,n,r,e⟩:=I.hok l _ hH
 exact ⟨z,its,n,r,r.length,e⟩
theorem zRq {n:Nat} (h:n≤sizeLine):Builtin.List.listTooLong n=false:=by
 unfold Builtin.List.listTooLong
 exact decide_eq_false (by omega)
end
section
variable {X : Cx}
def zMg:V→List V→Hp→VK→Prop:=fun x vs H Q=>∃ l xs y,x = .ref l∧vs=[y]∧H l=some (.lst xs)∧xs.length < sizeLine∧Q .non (upd H l (.lst (xs++[y])))
theorem zGo:MtM X "list.append" zMg:=by
 intro pins s σ H x vs v us Q I rx rv h
 obtain ⟨l,xs,y,rfl,rfl,hH,hz,q⟩:=h
 cases rx
 obtain ⟨u,rfl,ru⟩:=rv.one
 obtain ⟨z,its,n,r,hl,e⟩:=I.lstM hH
 refine call_meets F.slot_list_append ⟨_,e,rfl⟩ F.entry_list_append (F.args_list_append_2 _ _) (PySem.list_append l its.toArray n u (by rw [List.size_toArray];omega)) ⟨e,?_⟩
 refine ⟨.non,_,I.lset (its':=its++[u]) hH e (by simp) (r.append (.cons ru .nil)) ?_,rfl,q⟩
 rw [List.length_append,List.length_singleton]
 omega
def zUB:V→List V→Hp→VK→Prop:=fun x vs H Q=>∃ l b xs zs,x = .ref l∧vs=[.ref b]∧H l=some (.lst xs)∧H b=some (.lst zs)∧xs.length+zs.length≤sizeLine∧Q .non (upd H l (.lst (xs++zs)))
theorem zV2:MtM X "list.extend" zUB:=by
 intro pins s σ H x vs v us Q I rx rv h
 obtain ⟨l,b,xs,zs,rfl,rfl,hH,hB,hz,q⟩:=h
 cases rx
 obtain ⟨u,rfl,ru⟩:=rv.one
 cases ru
 obtain ⟨z,its,n,r,hl,e⟩:=I.lstM hH
 obtain ⟨z2,its2,n2,r2,hl2,e2⟩:=I.lstM hB
 have hsz:its.toArray.size+its2.toArray.size≤sizeLine:=by rw [List.size_toArray,List.size_toArray];omega
 have hlong : ¬ (!its.toArray.isEmpty && Builtin.List.listTooLong (its.toArray.size+its2.toArray.size))=true:=by
  rw [zRq hsz,Bool.and_false]
  exact Bool.false_ne_true
 refine call_meets F.slot_list_extend ⟨_,e,rfl⟩ F.entry_list_extend (F.args_list_extend_2 _ _)
  (AutoSeq1.list_extend_list_list_0 l its.toArray n b its2.toArray n2 hlong (by rw [List.size_toArray];omega) (by omega)) ⟨e,e2,?_⟩
 refine ⟨.non,_,I.lset (its':=its++its2) hH e (by simp) (r.append r2) ?_,rfl,q⟩
 rw [List.length_append]
 omega
def rPop:V→List V→Hp→VK→Prop:=fun x vs H Q=>∃ l xs y,x = .ref l∧vs=[]∧H l=some (.lst xs)∧xs[xs.length - 1]? = some y∧Q y (upd H l (.lst xs.dropLast))
theorem zXW:MtM X "list.pop" rPop:=by
 intro pins s σ H x vs v us Q I rx rv h
 obtain ⟨l,xs,y,rfl,rfl,hH,hy,q⟩:=h
 cases rx
 have hus:=rv.zero
 subst hus
 obtain ⟨z,its,n,r,hl,e⟩:=I.lstM hH
 obtain ⟨u,hu,ru⟩:=r.get hy
 have hy':its.toArray[its.toArray.size - 1]? = some u:=by
  show its.toArray[its.length - 1]? = some u
  rw [← Array.getElem?_toList,← hl]
  exact hu
 refine call_meets F.slot_list_pop ⟨_,e,rfl⟩ F.entry_list_pop (F.args_list_pop_1 _) (MeetsSeq.list_pop_last l its.toArray n u hy' (by rw [List.size_toArray];omega)) ⟨e,?_⟩
 refine ⟨y,_,I.lset (its':=its.dropLast) hH e ?_ r.dropLast ?_,ru,q⟩
 ·show its.toArray.eraseIdxIfInBounds (its.toArray.size - 1)=its.dropLast.toArray
  rw [List.size_toArray,List.eraseIdxIfInBounds_toArray,zOs]
 ·rw [List.length_dropLast]
  omega
def zN4:V→List V→Hp→VK→Prop:=fun x vs H Q=>∃ l xs,x = .ref l∧vs=[]∧H l=some (.lst xs)∧Q .non (upd H l (.lst xs.reverse))
theorem zOg:MtM X "list.reverse" zN4:=by
 intro pins s σ H x vs v us Q I rx rv h
 obtain ⟨l,xs,rfl,rfl,hH,q⟩:=h
 cases rx
 have hus:=rv.zero
 subst hus
 obtain ⟨z,its,n,r,hl,e⟩:=I.lstM hH
 refine call_meets F.slot_list_reverse ⟨_,e,rfl⟩ F.entry_list_reverse (F.args_list_reverse_1 _) (AutoSeq1.list_reverse_list_0 l its.toArray n (by rw [List.size_toArray];omega)) ⟨e,?_⟩
 refine ⟨.non,_,I.lset (its':=its.reverse) hH e (by simp) r.reverse ?_,rfl,q⟩
 rw [List.length_reverse]
 omega
def zSZ:V→List V→Hp→VK→Prop:=fun x vs H Q=>∃ l xs,x = .ref l∧vs=[]∧H l=some (.lst xs)∧Q .non (upd H l (.lst []))
theorem zSK:MtM X "list.clear" zSZ:=by
 intro pins s σ H x vs v us Q I rx rv h
 obtain ⟨l,xs,rfl,rfl,hH,q⟩:=h
 cases rx
 have hus:=rv.zero
 subst hus
 obtain ⟨z,its,n,r,hl,e⟩:=I.lstM hH
 refine call_meets F.slot_list_clear ⟨_,e,rfl⟩ F.entry_list_clear (F.args_list_clear_1 _) (AutoSeq1.list_clear_list_0 l its.toArray n (by rw [List.size_toArray];omega)) ⟨e,?_⟩
 exact ⟨.non,_,I.lset (its':=[]) (ys:=[]) hH e rfl .nil (Nat.zero_le _),rfl,q⟩
def rCat:R2:=fun x y H Q=>∃ l b xs zs,x = .ref l∧y = .ref b∧H l=some (.lst xs)∧H b=some (.lst zs)∧xs.length+zs.length≤sizeLine ∧ ∀ p,H p=none→Q (.ref p) (upd H p (.lst (xs++zs)))
theorem zKZ:OpR X (binaryOp .Add) rCat:=by
 intro pins s σ H x y v u Q I rx ry h
 obtain ⟨l,b,xs,zs,rfl,rfl,hH,hB,hz,q⟩:=h
 cases rx
 cases ry
 obtain ⟨z,its,n,r,hl,e⟩:=I.lstM hH
 obtain ⟨z2,its2,n2,r2,hl2,e2⟩:=I.lstM hB
 refine PySem.P.add_list e e2 ?_ (by rw [List.size_toArray,List.size_toArray];omega)
 have ea:its.toArray++its2.toArray=(its++its2).toArray:=by simp
 rw [ea]
 exact ⟨.ref _,_,I.lnew (t':=s.toks) (r.append r2) (by rw [List.length_append];omega),rfl,q _ I.fresh⟩
end
section
variable {prog : Program} {w : World} {A : Around} {E : Value → Shared → Prop} {s : Shared}
set_option maxRecDepth 100000 in
end
end L2
namespace Att
open PySem PySem.W PySem.Calls PyProof.Rows
theorem zJ9 {P : Params} {h : Heap} : ∀ (ns : List Int) (vs : List Value), WellAll P h vs (ns.map WData.int) → IntsAre vs ns := by
  intro ns
  induction ns with
  | nil =>
    intro vs w
    rw [List.map_nil] at w
    cases w
    exact .nil
  | cons n ns ih =>
    intro vs w
    rw [List.map_cons] at w
    cases w with
    | cons a b =>
      cases a
      exact .cons _ _ (ih _ b)
theorem zQu {l : OpenLaw} {n : Nat} (hn : l.most = some n) {P : Params} {h : Heap} {args : List WData} {vals : List Value}
    (hpre : l.row.toRowW.claim.pre args = true) (hwl : WellAll P h vals args) :
    ∃ a vs ns, vals = [Value.ref a] ∧ args = [WData.list (ns.map WData.int)] ∧ h.get? a = some { cls := .type "list", data := .seq vs.toArray } ∧ IntsAre vs ns ∧ ns.length ≤ n := by
  have hsh : WShape.hasAll [] args [.list .int] = true := (pre_splitW hpre).1
  have hc : l.pre.holds [] { args := args } = true := (pre_splitW hpre).2
  obtain ⟨d, r, rfl, h1, h2⟩ := hasAllW_cons hsh
  obtain rfl := hasAllW_nil h2
  obtain ⟨xs, rfl, h3⟩ := hasW_list h1
  obtain ⟨ns, rfl⟩ := items_int h3
  have hlen : ns.length ≤ n := by
    unfold OpenLaw.pre at hc
    have h4 : (WTm.not (.lt (.lit (.int (n : Int))) (.len (.arg 0)))).holds [] { args := [.list (ns.map .int)] } = true := by
      have h4 := (holds_andW hc).1
      rw [hn] at h4
      exact h4
    have h5 := condW_of h4 (w_not (w_lt w_lit (w_len_list (w_arg rfl))))
    rw [List.length_map] at h5
    refine Nat.le_of_not_lt fun q => ?_
    have q' : (n : Int) < ((ns.length : Nat) : Int) := by omega
    first
      | (rw [decide_eq_true q'] at h5; exact absurd h5 (by decide))
      | (simp at h5; omega)
  cases hwl with
  | cons w1 w2 =>
    cases w2
    cases w1 with
    | list ho hall => exact ⟨_, _, ns, rfl, rfl, ho, zJ9 ns _ hall, hlen⟩
theorem zQi (l:OpenLaw) (args:List WData):l.row.toRowW.claim.post args (.bool true) args=true:=
 postW_of (r:=l.row.toRowW) (X:=(true == true))
  (show WShape.has [] (.bool true) .bool=true by first | rfl | decide | simp [WShape.has,WShape.arms,WShape.armsAll])
  (show (WTm.eq .res (.lit (.bool true))).value [] { args:=args,res:=some (.bool true),after:=args }=some (.bool (true == true)) from w_eq_bool (w_res rfl) w_lit) rfl
theorem attach_call {l:OpenLaw} {n:Nat} {q:Program} {loose:List Str} {XP:(Str→Option Value)→Heap→Prop} {YP:World→Heap→Prop} {d:DefRec}
  (hn:l.most=some n) (hdf:d.params.defaults=[])
  (call : ∀ (w:World) (s₀ s₁:Shared) (mg mb:Str→Option Value) (fa:Addr) (o:Obj) (pm cd doc:Value) (a:Addr) (vs:List Value) (ns:List Int),
   Ground q loose [] XP w s₀ mg mb s₁.heap→YP w s₁.heap →
   s₁.heap.get? fa=some o→o.data = .func (docDef d.name d.params d.body d.scope pm cd doc)→s₁.heap.CodeRec cd d.name→mg d.name=some (.ref fa) →
   s₁.heap.get? a=some { cls:=.type "list", data:=.seq vs.toArray }→IntsAre vs ns→ns.length≤n→s₁.gens = #[] →
   codeAny (model l.prog w) callerA (.call (.ref fa) ⟨[.ref a],[]⟩) (fun r s'=>r = .ok (.ret (.bool true))∧OldK s₁.heap s'.heap∧s'.os=s₁.os∧AllBare s'.gens) s₁) :
  WalkO q loose XP YP l.row.toRowW d [] (fun f vs=>PySem.call f vs):=by
 intro w s₀ s₁ mg mb G Y fa o pm cd doc dV kV ho hd hcd hD hmg hg args vals as hpre hlay hrd hwl hlo
 obtain rfl:dV = .none:=Dflts.none hD hdf
 obtain rfl:kV = .none:=Dflts.noKw hD
 obtain ⟨a,vs,ns,rfl,rfl,hobj,hints,hlen⟩:=zQu hn hpre hwl
 refine enter_call (codeAny_mono (call w s₀ s₁ mg mb fa o pm cd doc a vs ns G Y ho (fd_plain hd) hcd hmg hobj hints hlen hg) fun r s' hq=>?_)
 obtain ⟨rfl,h2,h3,h4⟩:=hq
 exact ⟨.inl ⟨.bool true,.bool true,[],rfl,fun _=>rfl,.bool true,zQi l _,fun _=>⟨List.Pairwise.nil,fun _ hm=>(nomatch hm)⟩⟩,h2,h3,h4⟩
end Att
namespace L2
open PySem PySem.Spec PyProof.Rows
theorem zLc : ∀ {vs:List Value} {ns:List Int},IntsAre vs ns→Vals (ns.map V.int) vs
 | _,_,.nil=>.nil
 | _,_,.cons n t h=>.cons ⟨t,rfl⟩ (zLc h)
def Only (H:Hp):Prop:=∀ b,H b=none ∨ ∃ o xs,H b=some (.frz o (.lst xs))
theorem zR9 {P : Program} {w : World} {K : W.Frag} {mg mb : Str → Option Value} {CX : CXT} {k : Nat} {fa a : Addr} {fd : FuncData} {x : Str} {sp : Sp} {s₁ : Shared} {vs : List Value} {ns : List Int}
    (KX : K.In s₁.heap) (hns : s₁.heap.Ns mainGlobals mg) (hb : s₁.heap.Ns builtinsNs mb) (hbb : ∀ x : Str, x ≠ "__name__" → mb x = bootBuiltins x) (hlim : s₁.heap.NoLimit) (hg : s₁.gens = #[])
    (ha : s₁.heap.get? a = some { cls := .type "list", data := .seq vs.toArray }) (hi : IntsAre vs ns) (hl : ns.length ≤ sizeLine) (hr : Room k callerA)
    (F : ∀ base : Heap, K.In base → base.Ns mainGlobals mg → FnOk P w K mg base CX k fa fd [x] sp) (hbind : ∀ (s : Shared) (u : Value), BindsTo s fd ⟨[u], []⟩ [(x, u)])
    (hsp : ∀ H : Hp, Only H → SqL K H a (ns.map V.int) → sp [.ref a] H (fun v _ => v = .bl true) fun _ _ _ => False)
    (hCX : ∀ H e s', CX [] H s₁ (fun _ _ _ => False) e s' → False) :
    codeAny (model P w) callerA (.call (.ref fa) ⟨[.ref a], []⟩) (fun r s' => r = .ok (.ret (.bool true)) ∧ OldK s₁.heap s'.heap ∧ s'.os = s₁.os ∧ AllBare s'.gens) s₁ := by
  have rv := zLc hi
  have lenV := hi.length
  have core : ∀ H : Hp, Only H → SqL K H a (ns.map V.int) → HOk P w H s₁.heap → (∀ b, H b ≠ none → b = a) → (H a ≠ none → K.lookup a = none) →
      codeAny (model P w) callerA (.call (.ref fa) ⟨[.ref a], []⟩) (fun r s' => r = .ok (.ret (.bool true)) ∧ OldK s₁.heap s'.heap ∧ s'.os = s₁.os ∧ AllBare s'.gens) s₁ := by
    intro H hO hS hok hA hK
    have base_of : ∀ {b : Addr} {o : Obj}, s₁.heap.get? b = some o → H b = none → (hidT s₁.heap H).get? b = some o := fun e n => zR1 e n
    have noA : ∀ {b : Addr} {o : Obj} {es : Array DictEntry} {ep : Nat}, s₁.heap.get? b = some o → o.data = .dict es ep → H b = none := fun {b o es ep} e d => by
      cases q : H b with
      | none => rfl
      | some u =>
        have e' : b = a := hA b (by rw [q]; simp)
        subst e'
        rw [ha] at e; cases e
        have d' : Data.seq vs.toArray _ = Data.dict es ep := d
        cases d'
    have nsK : ∀ {b : Addr} {m : Str → Option Value}, s₁.heap.Ns b m → (hidT s₁.heap H).Ns b m := fun {b m} ⟨o, es, ep, e, d, r⟩ => ⟨o, es, ep, base_of e (noA e d), d, r⟩
    have hKb : K.In (hidT s₁.heap H) := fun b o e => base_of (KX b o e) (by
      cases q : H b with
      | none => rfl
      | some u =>
        have e' : b = a := hA b (by rw [q]; simp)
        subst e'
        rw [hK (by rw [q]; simp)] at e; cases e)
    have hM : Mod K mg (hidT s₁.heap H) := ⟨hKb, nsK hns, ⟨mb, nsK hb, hbb⟩, let ⟨mc, h1, h2⟩ := hlim; ⟨mc, nsK h1, h2⟩⟩
    have e0 : Env0 P w K mg (hidT s₁.heap H) callerA [] s₁ H := ⟨rfl, hM, fun b o e => zUO e, Nat.le_of_eq (zQ4 _ _), trivial, fun b hb => absurd (show b ∈ ([] : List Addr) from hb) (by simp), hok, .of_eq hg⟩
    refine codeAny_mono ((F _ hKb (nsK hns)).run callerA [] s₁ H ⟨[.ref a], []⟩ [.ref a] [.ref a] _ _ hr e0 (hbind s₁ (.ref a)) (.cons rfl .nil) (hsp H hO hS)) fun r s' h => ?_
    cases r with
    | error e => exact (hCX H e s' h).elim
    | ok fl =>
      cases fl with
      | next => exact False.elim h
      | brk => exact False.elim h
      | cont => exact False.elim h
      | ret u =>
        obtain ⟨v, H', os, bare, un, hok', r', q⟩ := h
        have q' : v = .bl true := q
        subst q'
        obtain rfl : u = Value.bool true := r'
        refine ⟨rfl, OldK.of_keep fun b o e => ?_, os, bare⟩
        cases q : H b with
        | none => exact un.keep b o e q (by intro z; exact absurd (show b ∈ ([] : List Addr) from z) (by simp)) (by simp)
        | some u =>
          rcases hO b with z | ⟨ob, xs, z⟩
          · rw [q] at z; cases z
          · have z2 := un.frzs b ob _ z
            obtain ⟨e1, _⟩ := hok b _ z
            obtain ⟨e2, _⟩ := hok' b _ z2
            rw [e] at e1; cases e1
            exact e2
  cases hk : K.lookup a with
  | some o =>
    have e := KX a o hk
    rw [ha] at e
    cases e
    refine core (fun _ => none) (fun _ => .inl rfl) (.inr ⟨_, vs.toArray, _, hk, rfl, rfl, rfl, by rw [List.size_toArray, lenV]; exact hl, by simpa using rv⟩) (fun b u z => by have z' : (none : Option HO) = some u := z; cases z') (fun b z => absurd rfl z) fun z => absurd rfl z
  | none =>
    refine core (fun b => if b = a then some (.frz { cls := .type "list", data := .seq vs.toArray } (.lst (ns.map V.int))) else none) (fun b => ?_) (.inl (.inr ⟨{ cls := .type "list", data := .seq vs.toArray }, if_pos rfl⟩)) (fun b u z => ?_) (fun b z => ?_) fun _ => hk
    · by_cases hb : b = a
      · exact .inr ⟨_, _, if_pos hb⟩
      · exact .inl (if_neg hb)
    · by_cases hb : b = a
      · have z' := (if_pos hb).symm.trans z
        cases z'
        subst hb
        exact ⟨ha, by rw [List.length_map]; exact hl, vs, _, rv, ha⟩
      · have z' := (if_neg hb).symm.trans z
        cases z'
    · by_cases hb : b = a
      · exact hb
      · exact absurd (if_neg hb) z
theorem walk_of {l:W.OpenLaw} {n k:Nat} {q:Program} {loose:List Str} {XP:(Str→Option Value)→Heap→Prop} {YP:World→Heap→Prop} {d:DefRec} {K:Params→W.Frag} {CX:World→CXT} {sp:World→Sp} {x:Str}
  (hn:l.most=some n) (hn2:n≤sizeLine) (hdf:d.params.defaults=[]) (hr:Room k callerA)
  (hY : ∀ (w:World) (h:Heap),YP w h→(K w.params).In h)
  (F : ∀ (w:World) (mg:Str→Option Value) (fa:Addr) (h:Heap),(K w.params).In h→h.Ns mainGlobals mg→mg d.name=some (.ref fa) →
   ∃ fd:FuncData,(∀ (s:Shared) (u:Value),BindsTo s fd ⟨[u],[]⟩ [(x,u)]) ∧
    ∀ base:Heap,(K w.params).In base→base.Ns mainGlobals mg→FnOk l.prog w (K w.params) mg base (CX w) k fa fd [x] (sp w))
  (hsp : ∀ (w:World) (H:Hp) (a:Addr) (ns:List Int),ns.length≤n→Only H→SqL (K w.params) H a (ns.map V.int)→sp w [.ref a] H (fun v _=>v = .bl true) fun _ _ _=>False)
  (hCX : ∀ (w:World) (H:Hp) (s:Shared) (e:Value) (s':Shared),CX w [] H s (fun _ _ _=>False) e s'→False) :
  W.WalkO q loose XP YP l.row.toRowW d [] (fun f vs=>PySem.call f vs):=by
 refine Att.attach_call hn hdf fun w s₀ s₁ mg mb fa o pm cd doc a vs ns G Y ho hd hcd hmg hobj hints hlen hg=>?_
 have KX:=hY w _ Y
 obtain ⟨fd,hb,hF⟩:=F w mg fa _ KX G.T.g hmg
 exact zR9 KX G.T.g G.T.b G.T.builtins G.T.nolimit hg hobj hints (Nat.le_trans hlen hn2) hr hF hb (fun H hO hS=>hsp w H a ns hlen hO hS) fun H e s'=>hCX w H s₁ e s'
def zBi (s:Stmt) (j:Nat):Stmt:=match s with
 | .ClassDef _ _ _ body _ _ _ _ _ _ _=>body.getD j (.Pass ⟨0,0,0,0⟩)
 | _=>.Pass ⟨0,0,0,0⟩
def zAL (s:Stmt):Arguments:=match s with
 | .FunctionDef _ a _ _ _ _ _ _ _ _=>a
 | _=>{ posonlyargs:=[],args:=[],vararg:=none,kwonlyargs:=[],kw_defaults:=[],kwarg:=none,defaults:=[] }
def zAK (s:Stmt):List Stmt:=match s with
 | .FunctionDef _ _ b _ _ _ _ _ _ _=>b
 | _=>[]
def zAF (s:Stmt):Scope:=match s with
 | .FunctionDef _ _ _ _ _ _ sc _ _ _=>sc
 | _=>{ kind:=.function,names:=[],isGenerator:=false,isCoroutine:=false }
abbrev CX0:CXT:=fun _ _ _ _ _ _=>False
abbrev E0:XK:=fun _ _ _=>False
theorem zBn {X:Cx}:zEY CX0 X E0:=fun _ _ _ _ _ _ _ h=>h.elim
structure Fun (K:W.Frag) (x qual:Str) (st:Stmt) (f:Addr) (fd:FuncData):Prop where
 ex : ∃ (oc:Value) (od:Option Addr) (kV doc pm:Value) (an:Option Addr) (cdv ct:Value) (osl:Array (Option Value)),
  fd=W.fnOf x qual (zAL st) (zAK st) (zAF st) .none kV doc pm an cdv ct∧K.lookup f=some ⟨oc,od,.func fd,osl⟩∧W.codeIn K cdv qual=true
 kp:W.keepIn K (.ref f)=true
section
variable {P : Program} {w : World} {K : W.Frag} {mg : Str → Option Value} {base : Heap}
theorem Fun.ok {x qual:Str} {st:Stmt} {f:Addr} {fd:FuncData} {N ps:List Str} {k:Nat} {sp:Sp} (F:Fun K x qual st f fd) (S:zAR N ps (zAF st)) (len : ∀ vs H Q E,sp vs H Q E→vs.length=ps.length)
  (hbody : ∀ (cdv:Value) (A:Around) (outer:List Env) (s:Shared) (H:Hp) (vs:List V) (Q:VK) (E:XK),Room k (A.deeper (envOfC qual (zAF st) s.heap.objs.size f cdv))→sp vs H Q E →
   ∃ t,PSs (cxOf CX0 P w K mg base N qual (zAF st) f cdv A outer s H E).nox (zAK st) t∧t { nx:=fun _ H'=>Q .non H',rt:=Q } (start N vs) H):FnOk P w K mg base CX0 (k+1) f fd ps sp:=by
 obtain ⟨oc,od,kV,doc,pm,an,cdv,ct,osl,rfl,lk,hcd⟩:=F.ex
 refine zPv lk hcd S len fun A outer s H vs Q E hr hsp=>?_
 obtain ⟨t,h,q⟩:=hbody cdv A outer s H vs Q E hr hsp
 exact ⟨t,h.nox,q⟩
theorem Fun.binds {x qual:Str} {st:Stmt} {f:Addr} {fd:FuncData} {ps:List Str} (F:Fun K x qual st f fd)
  (h : ∀ (kV doc pm:Value) (an:Option Addr) (cdv ct:Value) (us:List Value),us.length=ps.length→bindArgs (W.fnOf x qual (zAL st) (zAK st) (zAF st) .none kV doc pm an cdv ct) ⟨us,[]⟩=pure (ps.zip us)):zB7 K fd ps []:=by
 obtain ⟨oc,od,kV,doc,pm,an,cdv,ct,osl,rfl,lk,hcd⟩:=F.ex
 exact .all (h kV doc pm an cdv ct)
theorem zA0 {x qual:Str} {st:Stmt} {f:Addr} {oc:Value} {od an:Option Addr} {osl:Array (Option Value)} {kV doc pm cdv ct:Value} (l:K.lookup f=some ⟨oc,od,.func (W.fnOf x qual (zAL st) (zAK st) (zAF st) .none kV doc pm an cdv ct),osl⟩)
  (c:W.codeIn K cdv qual=true) (k:W.keepIn K (.ref f)=true):Fun K x qual st f (W.fnOf x qual (zAL st) (zAK st) (zAF st) .none kV doc pm an cdv ct):=⟨⟨oc,od,kV,doc,pm,an,cdv,ct,osl,rfl,l,c⟩,k⟩
end
theorem zCF {n:Nat} (h:n≤1000):n < sizeLine:=Nat.lt_of_le_of_lt h (by decide)
section
variable {X : Cx}
theorem pv (i:Nat) {x:Str} {pos:Pos} (hN:X.N[i]? = some x:=by rfl) (hv:Vis X.env.scope x:=by first | exact Or.inl rfl | exact Or.inr (Or.inl rfl) | exact Or.inr (Or.inr rfl)) (hd:(x == ("__debug__" : Str))=false:=by decide)
  (hcd:(x == ("__classdict__" : Str))=false:=by decide):PE X (.Name x pos) (tVar i):=zU4 hN hv hd hcd
end
theorem iteF {A B:Prop} (h:B):if false=true then A else B:=by
 rw [if_neg Bool.false_ne_true]
 exact h
theorem iteT {A B:Prop} (h:A):if true=true then A else B:=by
 rw [if_pos rfl]
 exact h
def Same (H H':Hp):Prop:=∀ b o,H b=some o→H' b=some o
theorem Same.refl (H:Hp):Same H H:=fun _ _ h=>h
theorem Same.trans {H H1 H2:Hp} (a:Same H H1) (b:Same H1 H2):Same H H2:=fun c o h=>b c o (a c o h)
theorem Same.free {H H' : Hp} (e : Same H H') {l : Addr} (h : H' l = Option.none) : H l = Option.none := by
  cases q : H l with
  | none => rfl
  | some o =>
    rw [e l o q] at h
    cases h
theorem Same.seq {K:W.Frag} {H H':Hp} {a:Addr} {xs:List V} (e:Same H H') (h:SqL K H a xs):SqL K H' a xs:=by
 rcases h with (h | ⟨o,h⟩) | h
 ·exact .inl (.inl (e _ _ h))
 ·exact .inl (.inr ⟨o,e _ _ h⟩)
 ·exact .inr h
set_option maxHeartbeats 4000000
abbrev GL:Int:=100000000000000000000000000000000000000000000000000000000000000000000000000000000000000000000000000000000000000000000000000000000000000000000000000000000000000000000000000000000000000000000000000000000
theorem zPO {k:Int} (h1 : -GL < k) (h2:k < GL):Builtin.Int.intBits k≤1000:=by
 unfold Builtin.Int.intBits
 split
 ·exact Nat.zero_le _
 ·have hn:k.natAbs < 100000000000000000000000000000000000000000000000000000000000000000000000000000000000000000000000000000000000000000000000000000000000000000000000000000000000000000000000000000000000000000000000000000000:=by
   unfold GL at h1 h2;omega
  have hp:(100000000000000000000000000000000000000000000000000000000000000000000000000000000000000000000000000000000000000000000000000000000000000000000000000000000000000000000000000000000000000000000000000000000:Nat)≤2 ^ 999:=by decide +kernel
  have:k.natAbs.log2 < 999:=by
   rcases Nat.eq_zero_or_pos k.natAbs with h0 | hp'
   ·rw [h0];decide
   ·exact (Nat.log2_lt (Nat.ne_of_gt hp')).mpr (Nat.lt_of_lt_of_le hn hp)
  omega
def zPL (i j:Int):Prop:=(-GL < i∧i < GL)∧(-GL < j∧j < GL)
theorem zPL.ok {i j:Int} (h:zPL i j):IntMulOk i j:=PySem.IntMulOk.of_le (zPO h.1.1 h.1.2) (zPO h.2.1 h.2.2) (by decide)
def zVV (i j:Int):Prop:=CMul i j∨zPL i j
def zWm (i j:Int):Prop:=0 < j∧j < GL
def zXP (i j:Int):Prop:=j≠0 ∧ -GL < j∧j < GL
theorem noPy {i j:Int} (h1 : -GL < j) (h2:j < GL):Builtin.divisionGoesByPylong i j=false:=by
 refine PyProof.noPylong_of_log2 ?_
 have hn:j.natAbs < 100000000000000000000000000000000000000000000000000000000000000000000000000000000000000000000000000000000000000000000000000000000000000000000000000000000000000000000000000000000000000000000000000000000:=by
  unfold GL at h1 h2;omega
 have hp:(100000000000000000000000000000000000000000000000000000000000000000000000000000000000000000000000000000000000000000000000000000000000000000000000000000000000000000000000000000000000000000000000000000000:Nat)≤2 ^ 999:=by decide +kernel
 have:j.natAbs.log2 < 999:=by
  rcases Nat.eq_zero_or_pos j.natAbs with h0 | hp'
  ·rw [h0];decide
  ·exact (Nat.log2_lt (Nat.ne_of_gt hp')).mpr (Nat.lt_of_lt_of_le hn hp)
 omega
section
variable {X : Cx} {a b : Expr} {ta tb : TE} {pos : Pos}
theorem zCO:OpR X (binaryOp .Mult) (rI zVV fun i j=>.int (i*j)):=opI fun _ _ _ _ _ _ _ hc q=>mul_int q (hc.elim CMul.ok zPL.ok)
theorem zCA:OpR X (binaryOp .FloorDiv) (rI zWm fun i j=>.int (i / j)):=opI fun i j _ _ _ _ _ hc q=>by
 have h1:(0:Int) < j:=hc.1
 have h2:=hc.2
 exact floordiv_int (by omega) (by rw [Int.fdiv_eq_ediv_of_nonneg i (by omega)];exact q) (.inl (noPy (by unfold GL;omega) h2))
theorem zNT {i j k:Int} {n1 n2:Nat} {p1 p2:Pos} (hc:CPow i j) (e:i ^ j.toNat=k):PE X (.BinOp (.Constant (.int i) n1 p1) .Pow (.Constant (.int j) n2 p2) pos) (tC (.int k)):=by
 intro pins s σ H Q I h
 refine zAS zUr zAG zAG pins s σ H Q I ⟨i,j,rfl,rfl,hc,?_⟩
 show Q (.int (i ^ j.toNat)) H
 rw [e];exact h
def clsV:V→Value
 | .ty T=>.type T
 | .ref C=>.ref C
 | _=>.none
def rIsi (K:W.Frag):List V→Hp→VK→Prop:=fun xs H Q=>∃ x c t b,xs=[x,c]∧TyOf K H x t∧(∃ T,c = .ty T ∨ ∃ C,c = .ref C)∧W.kitOne K t (clsV c)=some b∧Q (.bl b) H
theorem zCY:zGH X (.builtin "isinstance") (rIsi X.K):=by
 intro pins s σ H xs us Q I r h
 obtain ⟨x,c,t,b,rfl,ty,hc,e,q⟩:=h
 obtain ⟨v,w,rfl,rx,rw'⟩:=zRf r
 have:w=clsV c:=by
  obtain ⟨T,rfl | ⟨C,rfl⟩⟩:=hc
  ·exact rw'
  ·exact rw'
 subst this
 exact zQE I rx ty e fun tk=>⟨.bl b,H,I.tok _,rfl,q⟩
theorem Vals.getD : ∀ {xs:List V} {us:List Value} (j:Nat) (h:j < us.length),Vals xs us→RelV (xs.getD j .non) us[j]
 | _,_,j,h,.nil=>absurd h (Nat.not_lt_zero _)
 | _,_,0,_,.cons r _=>r
 | _,_,j+1,h,.cons _ t=>Vals.getD j (Nat.lt_of_succ_lt_succ h) t
end
def Has (P:Program) (w:World) (K:W.Frag) (mg:Str→Option Value) (base:Heap) (x:Str) (k:Nat) (ps:List Str) (sp:Sp):Prop:=
 ∃ (f:Addr) (fd:FuncData),FnOk P w K mg base CX0 k f fd ps sp∧mg x=some (.ref f)∧W.keepIn K (.ref f)=true∧zB7 K fd ps []
theorem zAJ {X:Cx} {x:Str} {k n:Nat} {ps:List Str} {sp:Sp} {p pos:Pos} {e:Expr} {es:List Expr} {t:TA} (F:Has X.prog X.w X.K X.mg X.base x k ps sp) (hr:Room n X.A) (hg:Gl X x) (ha:PA X (e::es) t) (hk:k≤n:=by decide)
  (hdb:(x == ("__debug__" : Str))=false:=by decide) (he:starEach (e::es) X.env=(false,eval e X.env)::starEach es X.env:=by rfl) (hpl:(backTo pos (starEach es X.env)).any (·.1)=false:=by rfl) :
  PE X (.Call (.Name x p) (e::es) [] pos) (zMm sp [] E0 t):=by
 obtain ⟨f,fd,G,hm,kp,hb⟩:=F
 exact zTj G (hr.mono hk) hg hm kp hb .nil zBn ha hdb he hpl
theorem zAO {X:Cx} {x:Str} {id:String} {p pos:Pos} {e:Expr} {es:List Expr} {t:TA} {r:List V→Hp→VK→Prop} (hc:zGH X (.builtin id) r) (hm:X.mg x=none) (hg:Gl X x) (hv:bootBuiltins x=some (.builtin id)) (ha:PA X (e::es) t) (hn:x ≠ "__name__" := by decide) (hdb:(x == ("__debug__" : Str))=false:=by decide)
  (he:starEach (e::es) X.env=(false,eval e X.env)::starEach es X.env:=by rfl) (hpl:(backTo pos (starEach es X.env)).any (·.1)=false:=by rfl):PE X (.Call (.Name x p) (e::es) [] pos) (tCB r t):=
 zQ5 hc hg hm hv ha hn hdb he hpl
theorem zE7 {H:Hp} {p:Addr} (h:H p=none) (o:HO):Same H (upd H p o):=fun b u q=>by rw [zBV (zCH q h)];exact q
theorem Same.at {H H':Hp} (g:Same H H') {b:Addr} {o:HO} (h:H b=some o):H' b=some o:=g b o h
theorem small {n:Nat} (h:n≤1000):n≤sizeLine:=Nat.le_of_lt (zCF h)
section
variable {σ : St} {H : Hp} {Q : VK} {D : Ends} {K : W.Frag}
theorem zXG {i:Nat} {v:V} (e:σ[i]? = some (some v)) (h:Q v H):tVar i σ H Q:=⟨v,e,h⟩
theorem r_c {v:V} (h:Q v H):tC v σ H Q:=h
theorem r_op {r:R2} {ta tb:TE} (h:ta σ H fun x H1=>tb σ H1 fun y H2=>r x y H2 Q):tOp r ta tb σ H Q:=h
theorem r_un {r:V→Hp→VK→Prop} {ta:TE} (h:ta σ H fun x H1=>r x H1 Q):tUn r ta σ H Q:=h
theorem r_I {C:Int→Int→Prop} {g:Int→Int→V} {i j:Int} (hc:C i j) (h:Q (g i j) H):rI C g (.int i) (.int j) H Q:=⟨i,j,rfl,rfl,hc,h⟩
theorem r_I0 {g:Int→Int→V} {i j:Int} (h:Q (g i j) H):rI0 g (.int i) (.int j) H Q:=⟨i,j,rfl,rfl,h⟩
theorem r_U {g:Int→V} {i:Int} (h:Q (g i) H):rU g (.int i) H Q:=⟨i,rfl,h⟩
theorem zXA {i j:Int} (h:Q (.bl (decide (i=j))) H):rEq (.int i) (.int j) H Q:=⟨rfl,by rw [show decide (V.int i=V.int j)=decide (i=j) by by_cases e:i=j <;> simp [e]];exact h⟩
theorem zWz {i j:Int} (h:Q (.bl (!decide (i=j))) H):rNe (.int i) (.int j) H Q:=⟨rfl,by rw [show decide (V.int i=V.int j)=decide (i=j) by by_cases e:i=j <;> simp [e]];exact h⟩
theorem zOn {x y:Str} {b:Bool} (e:decide (x=y)=b) (h:Q (.bl b) H):rEq (.str x) (.str y) H Q:=⟨rfl,by rw [show decide (V.str x=V.str y)=decide (x=y) by by_cases e:x=y <;> simp [e],e];exact h⟩
theorem zWR {t:TE} {R:Bool→Hp→Prop} (h:t σ H fun x H'=>∃ k,x = .bl k∧R k H'):zTG t σ H R:=h
theorem r_tB {t:TE} {R:Bool→Hp→Prop} (h:t σ H fun x H'=>∃ k,x = .bl k∧R k H'):tB t σ H R:=h
theorem zVD {b:Bool} {R:Bool→Prop} (h:R b) : ∃ k,V.bl b = .bl k∧R k:=⟨b,rfl,h⟩
theorem zW5 {t u:TT} {R:Bool→Hp→Prop} (h:t σ H fun c H1=>if c=true then u σ H1 R else R false H1):tAnd t u σ H R:=h
theorem r_or {t u:TT} {R:Bool→Hp→Prop} (h:t σ H fun c H1=>if c=true then R true H1 else u σ H1 R):tOr t u σ H R:=h
theorem zXQ {t:TT} {R:Bool→Hp→Prop} (h:t σ H fun c H1=>R (!c) H1):tNot t σ H R:=h
theorem zU8 {ta tb:TE} (h:ta σ H fun x H1=>∃ c,x = .bl c∧if c=true then tb σ H1 Q else Q (.bl false) H1):zUu ta tb σ H Q:=h
theorem zW3 {ta tb:TE} (h:ta σ H fun x H1=>∃ c,x = .bl c∧if c=true then Q (.bl true) H1 else tb σ H1 Q):tOrV ta tb σ H Q:=h
theorem zWe {ta:TE} (h:ta σ H fun x H1=>∃ c,x = .bl c∧Q (.bl (!c)) H1):zV9 ta σ H Q:=h
theorem zXH {t:TT} {ta tb:TE} (h:t σ H fun c H1=>if c=true then ta σ H1 Q else tb σ H1 Q):tIf t ta tb σ H Q:=h
theorem zTn {r r':R2} {ta tb tc:TE} (h:ta σ H fun x H1=>tb σ H1 fun y H2=>r x y H2 fun z H3=>∃ k,z = .bl k∧(if k=true then tc σ H3 fun w' H4=>r' y w' H4 Q else Q (.bl false) H3)):zSP r r' ta tb tc σ H Q:=h
theorem zVB {t u:TS} (h:t { D with nx:=u D } σ H):tSeq t u D σ H:=h
theorem zWF (h:D.nx σ H):zU0 D σ H:=h
theorem zVP {te:TE} {g:TG} (h:te σ H fun x H1=>g x σ H1 D.nx):tAsg te g D σ H:=h
theorem zVM {i:Nat} {v:V} {R:St→Hp→Prop} (h:R (σ.set i (some v)) H):zRd i v σ H R:=h
theorem zWw {te:TE} (h:te σ H D.rt):tRet te D σ H:=h
theorem zUv {te:TE} (h:te σ H fun _ H1=>D.nx σ H1):zU6 te D σ H:=h
theorem zXO {c:TT} {t u:TS} (h:c σ H fun b H1=>if b=true then t D σ H1 else u D σ H1):tIfS c t u D σ H:=h
theorem zWI {R:List V→Hp→Prop} (h:R [] H):tNil σ H R:=h
theorem zVE {ta:TE} {tr:TA} {R:List V→Hp→Prop} (h:ta σ H fun x H1=>tr σ H1 fun xs H2=>R (x::xs) H2):zU7 ta tr σ H R:=h
theorem zVk {sp:Sp} {dvs:List V} {E:XK} {t:TA} (h:t σ H fun vs H1=>sp (vs++dvs) H1 Q E):zMm sp dvs E t σ H Q:=h
theorem r_cb {r:List V→Hp→VK→Prop} {t:TA} (h:t σ H fun vs H1=>r vs H1 Q):tCB r t σ H Q:=h
def kTup (Q:VK) (xs:List V) (H:Hp):Prop:=xs.length≤sizeLine ∧ ∀ p,H p=none→Q (.ref p) (upd H p (.tup xs))
def kLst (Q:VK) (xs:List V) (H:Hp):Prop:=xs.length≤sizeLine ∧ ∀ p,H p=none→Q (.ref p) (upd H p (.lst xs))
theorem zW4 {t:TA} (h:t σ H (kTup Q)):tTup t σ H Q:=h
theorem zWj {t:TA} (h:t σ H (kLst Q)):tLst t σ H Q:=h
theorem zWM {xs:List V} (hz:xs.length≤sizeLine) (h : ∀ p H',Same H H'→H' p=some (.tup xs)→Q (.ref p) H'):kTup Q xs H:=⟨hz,fun p hp=>h p _ (zE7 hp _) zAU⟩
theorem zIk {p:Addr} {xs:List V} {i:Int} {v:V} (h:H p=some (.tup xs)) (e:atI xs i=some v) (q:Q v H):rIxT K (.ref p) (.int i) H Q:=⟨p,xs,i,v,rfl,rfl,SqT.of h,e,q⟩
theorem zOM {p:Addr} {xs:List V} {i:Int} {v:V} (h:SqL K H p xs) (e:atI xs i=some v) (q:Q v H):rIxL K (.ref p) (.int i) H Q:=⟨p,xs,i,v,rfl,rfl,h,e,q⟩
theorem zF8 {x c:V} {t:Value} {b:Bool} (ty:TyOf K H x t) (hc : ∃ T,c = .ty T ∨ ∃ C,c = .ref C) (e:W.kitOne K t (clsV c)=some b) (q:Q (.bl b) H):rIsi K [x,c] H Q:=⟨x,c,t,b,rfl,ty,hc,e,q⟩
end
def CPos (_ j:Int):Prop:=0 < j
def CNn (_ j:Int):Prop:=0≤j
def CNz (_ j:Int):Prop:=j≠0
theorem zBj {X:Cx}:OpR X (binaryOp .Mod) (rI CPos fun i j=>.int (i % j)):=zVu
theorem zK2 {X:Cx}:OpR X (binaryOp .RShift) (rI CNn fun i j=>.int (i / 2 ^ j.toNat)):=zVe
section
variable {σ : St} {H : Hp} {Q : VK} {D : Ends} {K : W.Frag}
theorem zXT {i j:Nat} {ta:TA} (h:ta σ H fun vs H1=>∃ v w,vs=[v,w]∧D.nx ((σ.set i (some v)).set j (some w)) H1):tPar i j ta D σ H:=h
theorem zXM {v w:V} {R:V→V→Prop} (h:R v w) : ∃ v' w',[v,w]=[v',w']∧R v' w':=⟨v,w,rfl,h⟩
theorem zWs {W:Nat→St→Hp→Prop} {m:Nat} {tb:TS} (h:tb { D with nx:=fun σ' H'=>∃ m',m' < m∧W m' σ' H',ct:=fun σ' H'=>∃ m',m' < m∧W m' σ' H',bk:=D.nx } σ H) :
  ∃ N:St→Hp→Prop,(∀ σ' H',N σ' H' → ∃ m',m' < m∧W m' σ' H')∧tb { D with nx:=N,ct:=N,bk:=D.nx } σ H:=⟨_,fun _ _ h=>h,h⟩
theorem zKB {c:TT} {tb:TS} (W:Nat→St→Hp→Prop) (h0 : ∃ m,W m σ H) (hs : ∀ m σ H,W m σ H→c σ H fun b H1=>if b=true then ∃ N:St→Hp→Prop,(∀ σ' H',N σ' H' → ∃ m',m' < m∧W m' σ' H')∧tb { D with nx:=N,ct:=N,bk:=D.nx } σ H1 else D.nx σ H1):zS2 c tb D σ H:=⟨W,h0,hs⟩
def zVg (g:TG) (tb:TS) (D:Ends) (σ:St) (vs:List V) (H:Hp):Prop:=∃ j:Int,vs=[.int j] ∧ -(2 ^ 62)≤j∧j < 2 ^ 62 ∧ ∃ W:Nat→Nat→St→Hp→Prop,(∃ m,W 0 m σ H) ∧ ∀ i m σ H,W i m σ H →
 ((Itr 0 j.toNat).stop i H∧D.nx σ H)∨((Itr 0 j.toNat).go i H ∧ ∃ N:St→Hp→Prop,(∀ σ' H',N σ' H' → ∃ m',m' < m∧W (i+1) m' σ' H') ∧ ∀ x H',(Itr 0 j.toNat).yld i H x H'→g x σ H' fun σ2 H2=>tb { D with nx:=N,ct:=N,bk:=D.nx } σ2 H2)
theorem zUx {ta:TA} {g:TG} {tb:TS} (h:ta σ H (zVg g tb D σ)):tFor (zTV ta) g tb D σ H:=h
theorem zKr {g:TG} {tb:TS} {j:Int} (h1 : -(2 ^ 62)≤j) (h2:j < 2 ^ 62) (Pv:Nat→St→Hp→Prop) (h0:Pv 0 σ H)
  (hs : ∀ i σ H,i < j.toNat→Pv i σ H→g (.int (0+i)) σ H fun σ2 H2=>tb { D with nx:=Pv (i+1),ct:=Pv (i+1),bk:=D.nx } σ2 H2) (hd : ∀ σ H,Pv j.toNat σ H→D.nx σ H):zVg g tb D σ [.int j] H:=⟨j,rfl,h1,h2,zMT Pv h0 hs hd⟩
theorem zVU {n:Nat} {t:TGs} {a:Addr} {xs:List V} {R:St→Hp→Prop} (h:H a=some (.tup xs)) (hn:xs.length=n) (k:t xs σ H R):gTup K n t (.ref a) σ H R:=⟨a,xs,rfl,SqT.of h,hn,k⟩
theorem zTm {t:TG} {u:TGs} {v:V} {r:List V} {R:St→Hp→Prop} (h:t v σ H fun σ' H'=>u r σ' H' R):zU1 t u (v::r) σ H R:=⟨v,r,rfl,h⟩
theorem zUz {R:St→Hp→Prop} (h:R σ H):gNil [] σ H R:=⟨rfl,h⟩
end
theorem zW0 {H:Hp} {Q:VK} {K:W.Frag} {p:Addr} {a b:V} {i:Int} (h:H p=some (.lst [a,b])) (hi:i=0∨i=1) (q0:i=0→Q a H) (q1:i=1→Q b H):rIxL K (.ref p) (.int i) H Q:=by
 rcases hi with rfl | rfl
 ·exact zOM (SqL.of h) rfl (q0 rfl)
 ·exact zOM (SqL.of h) rfl (q1 rfl)
def rAbs:List V→Hp→VK→Prop:=fun xs H Q=>∃ i,xs=[.int i]∧Q (.int (if i < 0 then -i else i)) H
def zWZ:List V→Hp→VK→Prop:=fun xs H Q=>∃ i j,xs=[.int i,.int j]∧Q (.int (if j > i then j else i)) H
def zUq:List V→Hp→VK→Prop:=fun xs H Q=>∃ i j,xs=[.int i,.int j]∧Q (.int (if j < i then j else i)) H
def zR4 (K:W.Frag):List V→Hp→VK→Prop:=fun xs H Q=>∃ p ys,xs=[.ref p]∧(SqL K H p ys∨SqT K H p ys)∧Q (.int ys.length) H
section
variable {X : Cx} {H : Hp} {Q : VK} {K : W.Frag}
theorem zFa:zGH X (.builtin "abs") rAbs:=zRy
theorem zHD (hc:X.calm=true):zGH X (.builtin "max") zWZ:=zQc hc
theorem zG7 (hc:X.calm=true):zGH X (.builtin "min") zUq:=zPa hc
theorem zH3:zGH X (.builtin "len") (zR4 X.K):=zL6
theorem zVF {i:Int} (h : ∀ k:Int,(0≤i∧k=i)∨(i < 0∧k = -i)→Q (.int k) H):rAbs [.int i] H Q:=⟨i,rfl,h _ (by split <;> omega)⟩
theorem zTk {i j:Int} (h : ∀ k:Int,(i < j∧k=j)∨(j≤i∧k=i)→Q (.int k) H):zWZ [.int i,.int j] H Q:=⟨i,j,rfl,h _ (by split <;> omega)⟩
theorem zTh {i j:Int} (h : ∀ k:Int,(j < i∧k=j)∨(i≤j∧k=i)→Q (.int k) H):zUq [.int i,.int j] H Q:=⟨i,j,rfl,h _ (by split <;> omega)⟩
theorem zTl {p:Addr} {a b:V} (h:H p=some (.tup [a,b])) (q:Q (.int 2) H):zR4 K [.ref p] H Q:=⟨p,[a,b],rfl,.inr (SqT.of h),q⟩
theorem zSn {p:Addr} {ys:List V} (h:SqL K H p ys) (q:Q (.int ys.length) H):zR4 K [.ref p] H Q:=⟨p,ys,rfl,.inl h,q⟩
end
theorem zSq:bootBuiltins "int" = some (.type "int"):=by decide +kernel
theorem zM7:bootBuiltins "bool" = some (.type "bool"):=by decide +kernel
theorem zRn:bootBuiltins "tuple" = some (.type "tuple"):=by decide +kernel
theorem zP0:bootBuiltins "str" = some (.type "str"):=by decide +kernel
theorem zIO:bootBuiltins "list" = some (.type "list"):=by decide +kernel
theorem zA7:bootBuiltins "isinstance" = some (.builtin "isinstance"):=by decide +kernel
theorem zKg:bootBuiltins "abs" = some (.builtin "abs"):=by decide +kernel
theorem zNx:bootBuiltins "max" = some (.builtin "max"):=by decide +kernel
theorem zN1:bootBuiltins "min" = some (.builtin "min"):=by decide +kernel
theorem zBl:bootBuiltins "len" = some (.builtin "len"):=by decide +kernel
def kitC (T T':String):Option Bool:=if (Value.type T == Value.type T')=true then some true else if W.kitMeta T'=true then (fastBuiltinMro T).map (·.contains (Value.type T')) else none
theorem zGx (K:W.Frag) (T T':String) {b:Bool} (h:kitC T T'=some b):W.kitOne K (.type T) (.type T')=some b:=h
theorem zNY (K:W.Frag):W.kitOne K (.type "int") (.type "int")=some true:=zGx K _ _ (by decide +kernel)
theorem zMK (K:W.Frag):W.kitOne K (.type "int") (.type "bool")=some false:=zGx K _ _ (by decide +kernel)
theorem zLD (K:W.Frag):W.kitOne K (.type "bool") (.type "bool")=some true:=zGx K _ _ (by decide +kernel)
theorem zLW (K:W.Frag):W.kitOne K (.type "bool") (.type "int")=some true:=zGx K _ _ (by decide +kernel)
theorem zJy (K:W.Frag):W.kitOne K (.type "tuple") (.type "tuple")=some true:=zGx K _ _ (by decide +kernel)
theorem zMh (K:W.Frag):W.kitOne K (.type "str") (.type "int")=some false:=zGx K _ _ (by decide +kernel)
theorem zNI (K:W.Frag):W.kitOne K (.type "str") (.type "str")=some true:=zGx K _ _ (by decide +kernel)
theorem zMD (K:W.Frag):W.kitOne K (.type "list") (.type "int")=some false:=zGx K _ _ (by decide +kernel)
theorem zK3 (K:W.Frag):W.kitOne K (.type "tuple") (.type "int")=some false:=zGx K _ _ (by decide +kernel)
theorem zJA (K:W.Frag):W.kitOne K (.type "NoneType") (.type "int")=some false:=zGx K _ _ (by decide +kernel)
theorem zLV (K:W.Frag):W.kitOne K (.type "dict") (.type "int")=some false:=zGx K _ _ (by decide +kernel)
section
variable {H : Hp} {Q : VK} {K : W.Frag}
theorem zRQ {i:Int} (q:Q (.bl true) H):rIsi K [.int i,.ty "int"] H Q:=zF8 (.int i) ⟨_,.inl rfl⟩ (zNY K) q
theorem zRD {i:Int} (q:Q (.bl false) H):rIsi K [.int i,.ty "bool"] H Q:=zF8 (.int i) ⟨_,.inl rfl⟩ (zMK K) q
theorem zRK {i:Bool} (q:Q (.bl true) H):rIsi K [.bl i,.ty "bool"] H Q:=zF8 (.bl i) ⟨_,.inl rfl⟩ (zLD K) q
theorem zSH {p:Addr} {xs:List V} (h:H p=some (.tup xs)) (q:Q (.bl true) H):rIsi K [.ref p,.ty "tuple"] H Q:=zF8 (.tup h) ⟨_,.inl rfl⟩ (zJy K) q
end
theorem i_d {c:Prop} [Decidable c] {A B:Prop} (h1:c→A) (h2 : ¬ c→B):if decide c=true then A else B:=by
 by_cases h:c
 ·rw [if_pos (decide_eq_true h)];exact h1 h
 ·rw [if_neg (by rw [decide_eq_false h];decide)];exact h2 h
theorem i_nd {c:Prop} [Decidable c] {A B:Prop} (h1:c→B) (h2 : ¬ c→A):if (!decide c)=true then A else B:=by
 by_cases h:c
 ·rw [decide_eq_true h];exact h1 h
 ·rw [decide_eq_false h];exact h2 h
theorem i_dP {c:Prop} [Decidable c] {A B:Prop} (h:c) (h1:A):if decide c=true then A else B:=i_d (fun _=>h1) (fun n=>absurd h n)
theorem i_dN {c:Prop} [Decidable c] {A B:Prop} (h : ¬ c) (h1:B):if decide c=true then A else B:=i_d (fun n=>absurd n h) (fun _=>h1)
theorem zXI {c:Prop} [Decidable c] {A B:Prop} (h:c) (h1:B):if (!decide c)=true then A else B:=i_nd (fun _=>h1) (fun n=>absurd h n)
theorem zW2 {c:Prop} [Decidable c] {A B:Prop} (h : ¬ c) (h1:A):if (!decide c)=true then A else B:=i_nd (fun n=>absurd n h) (fun _=>h1)
theorem i_b {b:Bool} {A B:Prop} (h1:b=true→A) (h2:b=false→B):if b=true then A else B:=by
 cases b with
 | true=>rw [if_pos rfl];exact h1 rfl
 | false=>rw [if_neg (by decide)];exact h2 rfl
theorem i_nT {A B:Prop} (h:B):if (!true)=true then A else B:=h
theorem i_nF {A B:Prop} (h:A):if (!false)=true then A else B:=h
def zDU (X:Cx) (scope:Scope) (cl:List (Str × Addr)) (N':List Str) (C:Addr) (s₂:Shared) (H₂:Hp) (fp:List Addr):Cx where
 prog:=X.prog
 w:=X.w
 K:=X.K
 mg:=X.mg
 base:=X.base
 A:=X.A
 N:=N'
 s₀:=s₂
 H₀:=H₂
 env:=compEnvC scope cl C X.env
 outer:=X.stack
 stack:=X.stack
 ex:=fp
 calm:=X.calm
 fn:=fun _=>false
 pn:=[]
 xe:=fun _ _=>False
def ClOk (cells:List (Str × Addr)):List (Str × Addr)→Prop
 | []=>True
 | p::r=>cells.lookup p.1=some p.2∧ClOk cells r
theorem ClOk.look {cells : List (Str × Addr)} : ∀ {cl : List (Str × Addr)} {x : Str} {c : Addr}, ClOk cells cl → cl.lookup x = some c → cells.lookup x = some c
  | [], _, _, _, h => by simp at h
  | (y, d) :: r, x, c, ⟨h1, h2⟩, h => by
    rw [List.lookup_cons] at h
    cases e : x == y with
    | true =>
      rw [e] at h
      have e' : x = y := eq_of_beq e
      cases h
      rw [e']; exact h1
    | false =>
      rw [e] at h
      exact ClOk.look h2 h
def FrOk (X:Cx) (scope:Scope):List Str→List Nat→Prop
 | [],[]=>True
 | y::r,j::js=>(X.N[j]? = some y∧scope.names.lookup y=some .free∧(X.env.kindOf y=some .cell∨X.env.kindOf y=some .free))∧FrOk X scope r js
 | _,_=>False
theorem FrOk.get {X : Cx} {scope : Scope} : ∀ {fr : List Str} {js : List Nat} {k : Nat} {y : Str}, FrOk X scope fr js → fr[k]? = some y → ∃ j, js[k]? = some j ∧ X.N[j]? = some y ∧ scope.names.lookup y = some .free ∧ (X.env.kindOf y = some .cell ∨ X.env.kindOf y = some .free)
  | [], _, _, _, _, h => by simp at h
  | _ :: _, [], _, _, h, _ => h.elim
  | y :: r, j :: js, 0, z, ⟨h1, _⟩, h => by simp at h; subst h; exact ⟨j, rfl, h1⟩
  | y :: r, j :: js, k + 1, z, ⟨_, h2⟩, h => by
    obtain ⟨j', e, q⟩ := FrOk.get (k := k) h2 (by simpa using h)
    exact ⟨j', by simpa using e, q⟩
theorem FrOk.len {X:Cx} {scope:Scope} : ∀ {fr:List Str} {js:List Nat},FrOk X scope fr js→fr.length=js.length
 | [],[],_=>rfl
 | [],_::_,h=>h.elim
 | _::_,[],h=>h.elim
 | _::r,_::js,h=>by rw [List.length_cons,List.length_cons,FrOk.len h.2]
theorem zIt {env : Env} : ∀ {names : List (Str × NameKind)} {x : Str}, (∀ y ∈ names, y.2 ≠ .cell) →
    ((names.map fun (n, k) => if (k == NameKind.free && env.scope.kind == .function && env.kindOf n == some .cell) then (n, NameKind.cell) else (n, k)).lookup x = some .cell ∨
     (names.map fun (n, k) => if (k == NameKind.free && env.scope.kind == .function && env.kindOf n == some .cell) then (n, NameKind.cell) else (n, k)).lookup x = some .free) → names.lookup x = some .free
  | [], _, _, h => by simp at h
  | (n, k) :: r, x, hc, h => by
    have ih := @zIt env r x (fun y hy => hc y (List.mem_cons_of_mem _ hy))
    rw [List.map_cons] at h
    dsimp only at h
    by_cases hb : (k == NameKind.free && env.scope.kind == .function && env.kindOf n == some .cell) = true
    · rw [if_pos hb] at h
      rw [List.lookup_cons] at h
      rw [List.lookup_cons]
      cases e : x == n with
      | true =>
        have : k = .free := by simp at hb; exact hb.1.1
        rw [this]
      | false =>
        rw [e] at h
        exact ih h
    · rw [if_neg hb] at h
      rw [List.lookup_cons] at h
      rw [List.lookup_cons]
      cases e : x == n with
      | true =>
        rw [e] at h
        have hk : k ≠ .cell := hc (n, k) List.mem_cons_self
        rcases h with h | h
        · exact absurd (Option.some.inj h) hk
        · exact h
      | false =>
        rw [e] at h
        exact ih h
theorem zGv {env : Env} (hk : env.scope.kind = .function) {x : Str} : ∀ {names : List (Str × NameKind)}, names.lookup x = some .free → (env.kindOf x = some .cell ∨ env.kindOf x = some .free) →
    ((names.map fun (n, k) => if (k == NameKind.free && env.scope.kind == .function && env.kindOf n == some .cell) then (n, NameKind.cell) else (n, k)).lookup x = some .cell ∨
     (names.map fun (n, k) => if (k == NameKind.free && env.scope.kind == .function && env.kindOf n == some .cell) then (n, NameKind.cell) else (n, k)).lookup x = some .free)
  | [], h, _ => by simp at h
  | (n, k) :: r, h, hx => by
    have ih := @zGv env hk x r
    rw [List.lookup_cons] at h
    rw [List.map_cons]
    dsimp only
    cases e : x == n with
    | true =>
      rw [e] at h
      have ek : k = .free := Option.some.inj h
      have en : x = n := eq_of_beq e
      subst ek
      rcases hx with hx | hx
      · left
        have hb : ((NameKind.free == NameKind.free) && env.scope.kind == .function && env.kindOf n == some .cell) = true := by rw [← en, hx, hk]; decide
        rw [if_pos hb, List.lookup_cons, e]
      · right
        have hb : ¬ ((NameKind.free == NameKind.free) && env.scope.kind == .function && env.kindOf n == some .cell) = true := by rw [← en, hx, hk]; decide
        rw [if_neg hb, List.lookup_cons, e]
    | false =>
      rw [e] at h
      rcases ih h hx with q | q
      · left
        split <;> rw [List.lookup_cons, e] <;> exact q
      · right
        split <;> rw [List.lookup_cons, e] <;> exact q
section
variable {X : Cx} {pins : List (Addr × Obj)} {σ : St} {H : Hp} {s : Shared}
theorem HOk.track {P:Program} {w:World} {H:Hp} {h:Heap} {a:Addr} {o:HO} (x:HOk P w H h) (hn:H a=none) (new:zEp P w (upd H a o) h a o):HOk P w (upd H a o) h:=fun b u e=>by
 by_cases hb:b=a
 ·subst hb;rw [zAU] at e;cases e;exact new
 ·rw [zBV hb] at e
  exact (x b u e).stay (fun c v _ q=>q) (fun c q=>by rw [zBV (zCH q hn)];exact q) fun c xs q=>by rw [zBV (zCH q hn)];exact q
theorem Inv.track {a:Addr} {o:HO} (I:Inv X pins σ H s) (f:FpOk X pins H a) (new:zEp X.prog X.w (upd H a o) s.heap a o):Inv X pins σ (upd H a o) s:=by
 obtain ⟨f0,f1,f2,f3,f4,f5⟩:=f
 have up : ∀ b,H b=none→b≠a→upd H a o b=none:=fun b e n=>by rw [zBV n];exact e
 have st : ∀ {b u},H b=some u→upd H a o b=some u:=fun {b u} e=>by rw [zBV (zCH e f0)];exact e
 have na : ∀ b ob,X.s₀.heap.get? b=some ob→b ∉ X.ex→b≠a:=fun b ob e hx z=>by
  rcases f3 with q | q
  ·exact hx (z ▸ q)
  ·exact absurd (Nat.lt_of_lt_of_le (Heap.lt_size e) (z ▸ q)) (Nat.lt_irrefl _)
 refine ⟨I.ok,I.os,I.bare,⟨I.base.keep,I.base.slot,fun b ob e n hx=>up b (I.base.free b ob e n hx) (na b ob e hx),I.base.there,fun b xs e=>st (I.base.tups b xs e),fun b ob u e=>st (I.base.frzs b ob u e),fun b ps e=>?_⟩,I.loc,I.cell,up _ I.free (Ne.symm f1),fun x c e=>up c (I.freeC x c e) (f4 x c e),fun p hp=>?_,I.hok.track f0 new,I.len⟩
 ·obtain ⟨m,q⟩:=I.base.tbls b ps e
  exact ⟨m,st q⟩
 ·obtain ⟨e,n,r⟩:=I.pin p hp
  exact ⟨e,up _ n (f5 p hp),r⟩
end
def PIfs (Y:Cx) (ifs:List Expr) (t:TT):Prop:=
 ∀ (pins:List (Addr × Obj)) (s:Shared) (σ:St) (H:Hp) (R:Bool→Hp→Prop),Inv Y pins σ H s→t σ H R →
  wpAny (model Y.prog Y.w) Y.A (forIn ifs true fun c r=>if r=true then do let ok ← isTrue c Y.env (eval c Y.env);pure (ForInStep.yield ok) else pure (ForInStep.yield r)) (TP Y pins σ R) Y.xe s
def zUy:TT:=fun _ H R=>R true H
theorem zG8 {Y:Cx}:PIfs Y [] zUy:=fun _ _ _ H _ I h=>wpAny_tests_nil ⟨H,I,h⟩
theorem zH7 {Y:Cx} {c:Expr} {t:TT} (h:PT Y c t):PIfs Y [c] t:=fun pins s σ H R I q=>wpAny_tests_one (h pins s σ H R I q)
def zQf (is : List Nat) (tt : TT) (te : TE) (σ : St) (Q : VK) (J : It) (H1 : Hp) : Prop := ∃ W : Nat → Nat → List V → Hp → Prop, (∃ m, W 0 m [] H1) ∧ ∀ i m ys H, W i m ys H → ys.length ≤ sizeLine ∧
  ((J.stop i H ∧ ∀ p, H p = none → Q (.ref p) (upd H p (.lst ys))) ∨
   (J.go i H ∧ ys.length < sizeLine ∧ ∀ x H', J.yld i H x H' → tt (some x :: is.map fun j => (σ[j]?).getD none) H' fun ok H2 =>
     if ok = true then te (some x :: is.map fun j => (σ[j]?).getD none) H2 fun y H3 => ∃ m', m' < m ∧ W (i + 1) m' (ys ++ [y]) H3 else ∃ m', m' < m ∧ W (i + 1) m' ys H2))
def zQp (is:List Nat) (wi:TI) (tt:TT) (te:TE):TE:=fun σ H Q=>wi σ H fun J H1=>zQf is tt te σ Q J H1
section
variable {X : Cx} {elt iter : Expr} {ifs : List Expr} {x : Str} {px pos : Pos} {scope : Scope} {cl : List (Str × Addr)} {fr : List Str} {is : List Nat} {wi : TI} {tt : TT} {te : TE}
theorem zQ1 {pins : List (Addr × Obj)} {σ : St} {H₂ : Hp} {s₂ : Shared} {C : Addr} {fp : List Addr} {N' : List Str} (I : Inv X pins σ H₂ s₂) (hC : s₂.heap.objs.size ≤ C) (hf : ∀ b ∈ fp, FpOk X pins H₂ b) (hfl : ∀ b ∈ fp, b < s₂.heap.objs.size)
    (hcell : ∀ y ∈ scope.names, y.2 ≠ .cell) (hkind : scope.kind = .function) (hcl : ClOk X.env.cells cl) (hfree : (scope.names.all fun p => p.2 != .free || (cl.lookup p.1).isSome) = true) : (zDU X scope cl N' C s₂ H₂ fp).Ok where
  mod := I.mod
  kind := hkind
  glob := I.ok.glob
  blt := I.ok.blt
  above := hC
  inj := fun x y c h1 h2 => I.ok.inj x y c (hcl.look h1) (hcl.look h2)
  has := fun y h => by
    have h' := zIt (env := X.env) hcell h
    have hm : (y, NameKind.free) ∈ scope.names := by
      have aux : ∀ {l : List (Str × NameKind)}, l.lookup y = some .free → (y, NameKind.free) ∈ l := by
        intro l
        induction l with
        | nil => intro z; simp at z
        | cons p r ih =>
          intro z
          obtain ⟨n, k⟩ := p
          rw [List.lookup_cons] at z
          cases e : y == n with
          | true => rw [e] at z; cases z; rw [eq_of_beq e]; exact List.mem_cons_self
          | false => rw [e] at z; exact List.mem_cons_of_mem _ (ih z)
      exact aux h'
    have q : ((NameKind.free != NameKind.free) || (cl.lookup y).isSome) = true := List.all_eq_true.mp hfree _ hm
    have q' : (cl.lookup y).isSome = true := by rw [bne_self_eq_false, Bool.false_or] at q; exact q
    exact Option.isSome_iff_exists.mp q'
  cab := fun _ _ h _ => by cases h
  hd := I.ok.hd
  frames := I.ok.frames
  stk := .inl rfl
  exf := fun b hb => ⟨Nat.ne_of_lt (Nat.lt_of_lt_of_le (hfl b hb) hC), fun y c e => (hf b hb).2.2.2.2.1 y c (hcl.look e)⟩
  bs := I.bs
  bsz := Nat.le_trans I.ok.bsz I.sz
  noex := fun b o e hb => by
    rcases (hf b hb).2.2.2.1 with q | q
    · exact I.ok.noex b o e q
    · exact absurd (Nat.lt_of_lt_of_le (Heap.lt_size e) (Nat.le_trans I.ok.bsz q)) (Nat.lt_irrefl _)
  exfs := fun b hb z => by
    rcases List.mem_cons.mp (I.stkSub b z) with q | q
    · exact (hf b hb).2.1 q
    · exact (hf b hb).2.2.1 q
  funs := I.stack
  frf := I.stkFree
def zQn (X:Cx) (pins:List (Addr × Obj)) (σ:St) (Q:VK) (acc:Value) (C:Addr) (r:Result) (s':Shared):Prop:=match r with
 | .ok _=>∃ (D:Addr) (H':Hp) (m:Str→Option Value),acc = .ref D∧Inv X pins σ H' s'∧s'.heap.Ns C m∧FpOk X pins H' C∧Q (.ref D) H'
 | .error _=>False
theorem zWu {M:Model} {A:Around} {E:Value→Shared→Prop} {s:Shared} {x:Str} {px:Pos} {it u:Value} {Q1:Unit→Shared→Prop} {α:Type} {t:Sem α} {Q2:α→Shared→Prop} (h:wpAny M A (letOwnedTupleGo (.Name x px) it u) Q1 E s) (k : ∀ s,Q1 () s→wpAny M A t Q2 E s):wpAny M A t Q2 E s:=by
 have z:wpAny M A (letOwnedTupleGo (.Name x px) it u >>= fun _=>t) Q2 E s:=wpAny_bind (thn h fun _ s q=>k s q)
 rw [show letOwnedTupleGo (.Name x px) it u=pure () from rfl,pure_bind] at z
 exact z
theorem zLw {pins : List (Addr × Obj)} {σ : St} {Q : VK} {E : Value → Shared → Prop} {s₂ : Shared} {H₂ : Hp} {it : Addr} {fp : List Addr} {tn : Nat → Heap → Prop} {J : It}
    (hc : X.calm = true) (hcell : ∀ y ∈ scope.names, y.2 ≠ .cell) (hkind : scope.kind = .function) (hx : scope.names.lookup x = some .local) (hcl : ClOk X.env.cells cl)
    (hfree : (scope.names.all fun p => p.2 != .free || (cl.lookup p.1).isSome) = true) (hfr : FrOk X scope fr is) (hnd : (x :: fr).Nodup)
    (ht : ∀ C s₂ H₂ fp, PIfs (zDU X scope cl (x :: fr) C s₂ H₂ fp) ifs tt) (he : ∀ C s₂ H₂ fp, PE (zDU X scope cl (x :: fr) C s₂ H₂ fp) elt te)
    (I : Inv X pins σ H₂ s₂) (T : Turn X.prog X.w X.K (.Name x px) J fp it tn) (st : tn 0 s₂.heap) (hf : ∀ b ∈ fp, FpOk X pins H₂ b) (R : zQf is tt te σ Q J H₂) :
    wpAny (model X.prog X.w) X.A (newList []) (fun acc s₃ => wpAny (model X.prog X.w) X.A (newFunctionEnv scope X.env.globals cl [] X.env.qual none .none (some X.env)) (fun cenv s₄ =>
      codeAny (model X.prog X.w) X.A (.compStart (.ListComp elt [⟨.Name x px, iter, ifs, 0⟩] scope pos) 0 (.ref it) acc { cenv with scope := relabel scope X.env }) (zQn X pins σ Q acc cenv.locals) s₄) E s₃) E s₂ := by
  obtain ⟨W, ⟨m0, w0⟩, turn⟩ := R
  refine wpAny_newObj_type (wpAny_newFunctionEnv hcell (by intro y hy; simp at hy) (fun h₁ hns₁ hsb₁ => ?_) hkind)
  dsimp only at hns₁ hsb₁ ⊢
  generalize hH2 : s₂.heap.push { cls := .type "list", dict := none, data := .seq ([] : List Value).toArray } = G2 at hns₁ hsb₁ ⊢
  have hC : G2.objs.size = s₂.heap.objs.size + 1 := by rw [← hH2, Heap.size_push]
  have hDC : s₂.heap.objs.size ≠ G2.objs.size := by rw [hC]; exact Nat.ne_of_lt (Nat.lt_succ_self _)
  have below : ∀ b, b < s₂.heap.objs.size → b ≠ G2.objs.size ∧ b ≠ s₂.heap.objs.size := fun b hb => ⟨by rw [hC]; exact Nat.ne_of_lt (Nat.lt_succ_of_lt hb), Nat.ne_of_lt hb⟩
  have hfl : ∀ b ∈ fp, b < s₂.heap.objs.size := fun b hb => by obtain ⟨o, e, _⟩ := T.obj _ _ st b hb; exact Heap.lt_size e
  have old : ∀ b o, s₂.heap.get? b = some o → h₁.get? b = some o := fun b o e => hsb₁.extBut b o (below b (Heap.lt_size e)).1 (Heap.get?_push_of_some _ (hH2 ▸ Heap.get?_push_of_some _ e))
  have hacc : h₁.get? s₂.heap.objs.size = some { cls := .type "list", data := .seq ([] : List Value).toArray 0 } := hsb₁.extBut _ _ hDC (Heap.get?_push_of_some _ (hH2 ▸ Heap.get?_push_size _ rfl))
  have hfresh : ∀ b, s₂.heap.objs.size ≤ b → H₂ b = none := fun b hb => I.hok.fresh hb
  have hCle : s₂.heap.objs.size ≤ G2.objs.size := by rw [hC]; exact Nat.le_succ _
  generalize hCe : G2.objs.size = C at *
  generalize hDe : s₂.heap.objs.size = D at *
  have ok : (zDU X scope cl (x :: fr) C s₂ H₂ fp).Ok := zQ1 I (by rw [hDe]; exact hCle) hf (by rw [hDe]; exact hfl) hcell hkind hcl hfree
  have hYc : (zDU X scope cl (x :: fr) C s₂ H₂ fp).calm = true := hc
  have hDfp : ∀ b ∈ fp, b ≠ D := fun b hb => Nat.ne_of_lt (hfl b hb)
  have hDst : D ∉ frs X.stack := fun z => by
    rcases List.mem_cons.mp (I.stkSub D z) with q | q
    · have := I.lt; rw [hDe, ← q] at this; exact Nat.lt_irrefl _ this
    · exact I.nofs (by rw [hDe]; exact Nat.le_refl _) q
  have hfY : ∀ {H' : Hp} {its : List Value} {n : Nat}, (∀ b ∈ fp, H' b = none) → ∀ b ∈ fp, FpOk (zDU X scope cl (x :: fr) C s₂ H₂ fp) [(D, { cls := .type "list", data := .seq its.toArray n })] H' b := fun hn b hb =>
    ⟨hn b hb, (ok.exf b hb).1, ok.exfs b hb, .inl hb, (ok.exf b hb).2, fun p hp => by
      have e : p = (D, { cls := .type "list", data := .seq _ _ }) := List.mem_singleton.mp hp
      rw [e]; exact Ne.symm (hDfp b hb)⟩
  have lenF : (is.map fun j => (σ[j]?).getD none).length = fr.length := by rw [List.length_map, hfr.len]
  have I0 : Inv (zDU X scope cl (x :: fr) C s₂ H₂ fp) [(D, { cls := .type "list", data := .seq ([] : List Value).toArray 0 })] (none :: is.map fun j => (σ[j]?).getD none) H₂ { s₂ with heap := h₁, toks := s₂.toks + ([] : List (Str × Value)).length } := by
    refine ⟨ok, rfl, I.bare, Un.kept old, ⟨_, hns₁, fun i y v e1 e2 e3 => ?_⟩, fun y c e => ?_, hfresh C hCle, fun y c e => I.freeC y c (hcl.look e), fun p hp => ?_, I.hok.kept old, ?_⟩
    · cases i with
      | zero => cases e2
      | succ k =>
        have e1' : fr[k]? = some y := e1
        have e2' : (is.map fun j => (σ[j]?).getD none)[k]? = some (some v) := e2
        obtain ⟨j, hj, hN, hfy, hkx⟩ := hfr.get e1'
        rw [List.getElem?_map, hj] at e2'
        have e4 : (σ[j]?).getD none = some v := Option.some.inj e2'
        have e5 : σ[j]? = some (some v) := by
          cases q : σ[j]? with
          | none => rw [q] at e4; cases e4
          | some o => rw [q] at e4; have e4' : o = some v := e4; rw [e4']
        obtain ⟨m, hn, hl⟩ := id I.loc
        have hvis : Vis X.env.scope y := hkx.elim (fun q => .inr (.inl q)) fun q => .inr (.inr q)
        obtain ⟨u, r, lk⟩ := hl j y v hN e5 hvis
        refine ⟨u, r, .inr ⟨zGv I.ok.kind hfy hkx, ?_⟩⟩
        rcases lk with ⟨kl, _⟩ | ⟨_, c, ec, ic⟩
        · rcases hkx with q | q <;> rw [kl] at q <;> cases q
        · obtain ⟨c', ec'⟩ := ok.has y (zGv I.ok.kind hfy hkx)
          have : c' = c := Option.some.inj ((hcl.look ec').symm.trans ec)
          rw [this] at ec'
          obtain ⟨o, ho, hd⟩ := ic
          exact ⟨c, ec', o, old c o ho, hd⟩
    · obtain ⟨v, o, ho, hd⟩ := I.cell y c (hcl.look e)
      exact ⟨v, o, old c o ho, hd⟩
    · have e : p = (D, { cls := .type "list", data := .seq ([] : List Value).toArray 0 }) := List.mem_singleton.mp hp
      rw [e]
      exact ⟨hacc, hfresh D (Nat.le_refl _), hDC, hDst, fun v z => by cases z⟩
    · show (none :: _).length = (x :: fr).length
      rw [List.length_cons, List.length_cons, lenF]
  have loop : ∀ s₃ : Shared, s₃ = { s₂ with heap := h₁, toks := s₂.toks + ([] : List (Str × Value)).length } →
      codeAny (model X.prog X.w) X.A (.compLoop (.ListComp elt [⟨.Name x px, iter, ifs, 0⟩] scope pos) 0 (.ref it) (.ref D) (compEnvC scope cl C X.env)) (zQn X pins σ Q (.ref D) C) s₃ := by
    rintro s₃ rfl
    refine codeAny_compLoop_tests (fun n s' => ∃ (i : Nat) (o : Option V) (ys : List V) (its : List Value) (k : Nat) (H' : Hp), Inv (zDU X scope cl (x :: fr) C s₂ H₂ fp) [(D, { cls := .type "list", data := .seq its.toArray k })] (o :: is.map fun j => (σ[j]?).getD none) H' s' ∧
      tn i s'.heap ∧ (∀ b ∈ fp, H' b = none) ∧ Vals ys its ∧ W i n ys H') ?_ m0 ⟨0, none, [], [], 0, H₂, I0, T.keep _ _ _ st fun b _ o e => old b o e, fun b hb => (hf b hb).1, .nil, w0⟩
    rintro n s' ⟨i, o, ys, its, k, H', I', st', fr', vs, w'⟩
    obtain ⟨hlen, ⟨stop, fin⟩ | ⟨go, hlt, step⟩⟩ := turn i n ys H' w'
    · refine wpAny_mono (T.done (zDU X scope cl (x :: fr) C s₂ H₂ fp) rfl rfl rfl hYc i _ s' _ H' (fun _ _ => False) I' (hfY fr') st' stop) (fun r s1 ⟨hr, I1⟩ => ?_) fun _ _ z => z.elim
      subst hr
      obtain ⟨pD, nD, _, _, _⟩ := I1.pin _ (List.mem_append_right _ (List.mem_singleton.mpr rfl))
      have IX : Inv X pins σ H' s1 := I.call' I1.os I1.base I1.hok I1.bare fun b hb => ⟨(hf b hb).2.2.2.1, (hf b hb).2.1, (hf b hb).2.2.2.2.1, (hf b hb).2.2.2.2.2⟩
      have fD : FpOk X pins H' D := I.fpOk (by rw [hDe]; exact Nat.le_refl _) nD
      obtain ⟨m, hn, _⟩ := id I1.loc
      have hC' : H' C = none := I1.free
      refine ⟨D, upd H' D (.lst ys), m, rfl, IX.track fD ⟨hlen, its, k, vs, pD⟩, hn, I.fpOk (by rw [hDe]; exact hCle) (by rw [zBV (Ne.symm hDC)]; exact hC'), fin D nD⟩
    · refine wpAny_mono (T.item (zDU X scope cl (x :: fr) C s₂ H₂ fp) rfl rfl rfl hYc i _ s' _ H' (fun _ _ => False) I' (hfY fr') st' go) (fun r s1 ⟨u, hr, h4⟩ => ?_) fun _ _ z => z.elim
      subst hr
      refine wpAny_mono (zWu (Q2 := fun _ s6 => _) h4 fun s2 ⟨v, H5, I5, r5, y5, st5, fr5⟩ => ?_) (fun _ _ q => q) fun _ _ z => z.elim
      have I5' := I5.pinned (hfY fr5) (T.obj _ _ st5)
      refine thn (zBX (X := zDU X scope cl (x :: fr) C s₂ H₂ fp) (i := 0) hnd rfl (.inl (lookup_relabel_local hx)) (.inr (lookup_relabel_local hx)) _ s2 _ H5 v u (fun σ' H' => σ' = (some v :: is.map fun j => (σ[j]?).getD none) ∧ H' = H5) I5' r5 ⟨rfl, rfl⟩) fun _ s6 ⟨σ6, H6, I6, e6, e7⟩ => ?_
      subst e6 e7
      refine wpAny_mono (ht C s₂ H₂ fp _ s6 _ H6 _ I6 (step v H6 y5)) (fun ok7 s7 ⟨H7, I7, q7⟩ => ?_) fun _ _ z => z.elim
      have keep : ∀ {σ8 : St} {H8 : Hp} {s8 : Shared}, Inv (zDU X scope cl (x :: fr) C s₂ H₂ fp) ([(D, { cls := .type "list", data := .seq its.toArray k })] ++ zLz fp s2.heap) σ8 H8 s8 → tn (i + 1) s8.heap ∧ ∀ b ∈ fp, H8 b = none := fun {σ8 H8 s8} I8 =>
        ⟨T.keep _ _ _ st5 fun b hb o e => (I8.pin (b, o) (List.mem_append_right _ (List.mem_append_right _ (zG6 hb e)))).1, fun b hb => by
          obtain ⟨o, e, d⟩ := T.obj _ _ st5 b hb
          exact (I8.pin (b, o) (List.mem_append_right _ (List.mem_append_right _ (zG6 hb e)))).2.1⟩
      cases ok7 with
      | false =>
        obtain ⟨m', hm', w7⟩ := q7
        exact ⟨m', hm', i + 1, _, ys, its, k, H7, I7.unpinned, (keep I7).1, (keep I7).2, vs, w7⟩
      | true =>
        refine wpAny_mono (he C s₂ H₂ fp _ s7 _ H7 _ I7 q7) (fun yv s8 ⟨y, H8, I8, r8, m', hm', w8⟩ => ?_) fun _ _ z => z.elim
        obtain ⟨pD, nD, neD, nfD, ncD⟩ := I8.pin (D, { cls := .type "list", data := .seq its.toArray k }) (List.mem_append_right _ (List.mem_append_left _ (List.mem_singleton.mpr rfl)))
        have hl := vs.length
        refine append_at (hsz := by rw [List.size_toArray, ← hl]; exact hlen) pD fun h9 sb9 hD9 => ?_
        obtain ⟨st8, fr8⟩ := keep I8
        have I8' : Inv (zDU X scope cl (x :: fr) C s₂ H₂ fp) [] (some v :: is.map fun j => (σ[j]?).getD none) H8 s8 := I8.pins_of fun p hp => nomatch hp
        have I9 : Inv (zDU X scope cl (x :: fr) C s₂ H₂ fp) [] (some v :: is.map fun j => (σ[j]?).getD none) H8 { s8 with heap := h9 } :=
          I8'.turned (t' := s8.toks) (fun b o hb e => (sb9.2 b hb).trans e) nD neD (.inr (by rw [← hDe]; exact Nat.le_refl _)) (fun y' c e z => by
            obtain ⟨v', o', ho', hd'⟩ := I8'.cell y' c e
            rw [z, pD] at ho'; cases ho'; cases hd') (fun p hp => nomatch hp)
        refine ⟨m', hm', i + 1, _, ys ++ [y], its ++ [yv], k + 1, H8, I9.pins_of fun p hp => ?_, T.keep _ _ _ st8 fun b hb o e => (sb9.2 b (hDfp b hb)).trans e, fr8, vs.append (.cons r8 .nil), w8⟩
        rw [List.mem_singleton.mp hp]
        refine ⟨?_, nD, neD, nfD, fun v z => by cases z⟩
        rw [← List.push_toArray]
        exact hD9
  exact codeAny_compStart_list (loop _ rfl) (T.self _ 0 _ _ _ (T.keep _ _ _ st fun b _ o e => old b o e) (loop _ rfl))
theorem zGG (hc : X.calm = true) (hclos : closureFor scope X.env = pure cl) (hcl : ClOk X.env.cells cl) (hfree : (scope.names.all fun p => p.2 != .free || (cl.lookup p.1).isSome) = true) (hfr : FrOk X scope fr is) (hnd : (x :: fr).Nodup)
    (hcell : ∀ y ∈ scope.names, y.2 ≠ .cell) (hkind : scope.kind = .function) (hnames : ∀ y ∈ scope.names, y.2 = .local → scope.names.lookup y.1 = some .local) (hx : scope.names.lookup x = some .local)
    (hi : PI X (.Name x px) iter wi) (ht : ∀ C s₂ H₂ fp, PIfs (zDU X scope cl (x :: fr) C s₂ H₂ fp) ifs tt) (he : ∀ C s₂ H₂ fp, PE (zDU X scope cl (x :: fr) C s₂ H₂ fp) elt te) (hs : ∀ x, foldedSetIterable iter X.env x = pure x := by intro _; rfl) :
    PE X (.ListComp elt [⟨.Name x px, iter, ifs, 0⟩] scope pos) (zQp is wi tt te) := by
  intro pins s σ H Q I h
  rw [eval_ListComp]
  refine wpAny_comprehension_free (use := none) rfl hs hclos hkind hnames (thn (hi pins s σ H _ I h) fun v s1 h1 => thn h1 fun itv s2 h2 => ?_)
  obtain ⟨it, fp, tn, J, H2, e, I2, T, st2, f2, R⟩ := h2
  subst e
  refine thn (zLw hc hcell hkind hx hcl hfree hfr hnd ht he I2 T st2 f2 R) fun acc s3 h3 => thn h3 fun cenv s4 h4 => codeAny_mono h4 fun r s' q => ?_
  cases r with
  | error e => exact q.elim
  | ok f =>
    obtain ⟨D, H', m, rfl, I', hn, fC, q⟩ := q
    obtain ⟨f0, f1, _, f3, f4, f5⟩ := fC
    exact ⟨m, hn, fun h' sb => ⟨.ref D, H', I'.turned (t' := s'.toks) (fun b o hb e => (sb.2 b hb).trans e) f0 f1 f3 f4 f5, rfl, q⟩⟩
theorem zKi {i : Nat} {y : Str} {py spos : Pos} (hN : X.N.Nodup) (hiy : X.N[i]? = some y) (hy : Loc X.env.scope y) (hsw : swapsWith (.ListComp elt [⟨.Name x px, iter, ifs, 0⟩] scope pos) (some (.Name y py)) spos.line X.env = pure true)
    (hc : X.calm = true) (hclos : closureFor scope X.env = pure cl) (hcl : ClOk X.env.cells cl) (hfree : (scope.names.all fun p => p.2 != .free || (cl.lookup p.1).isSome) = true) (hfr : FrOk X scope fr is) (hnd : (x :: fr).Nodup)
    (hcell : ∀ y ∈ scope.names, y.2 ≠ .cell) (hkind : scope.kind = .function) (hnames : ∀ y ∈ scope.names, y.2 = .local → scope.names.lookup y.1 = some .local) (hx : scope.names.lookup x = some .local)
    (hi : PI X (.Name x px) iter wi) (ht : ∀ C s₂ H₂ fp, PIfs (zDU X scope cl (x :: fr) C s₂ H₂ fp) ifs tt) (he : ∀ C s₂ H₂ fp, PE (zDU X scope cl (x :: fr) C s₂ H₂ fp) elt te) (hs : ∀ x, foldedSetIterable iter X.env x = pure x := by intro _; rfl)
    (hf : X.fn y = true ∨ X.env.scope.names.lookup y = some .local := by first | exact .inl rfl | exact .inr rfl | assumption) :
    PS X (.Assign [.Name y py] (.ListComp elt [⟨.Name x px, iter, ifs, 0⟩] scope pos) spos) (tAsg (zQp is wi tt te) (zRd i)) := by
  intro pins s σ H D0 I h
  rw [exec_Assign_Name_used _ _ _ _ hsw]
  refine wpAny_bind (wpAny_standAt (wpAny_bind ?_))
  show wpAny _ X.A (do let _ ← comprehension (.ListComp elt [⟨.Name x px, iter, ifs, 0⟩] scope pos) scope X.env _ (newList []) false (eval iter X.env) (some (assign (.Name y py) X.env))) _ _ s
  refine wpAny_bind (wpAny_mono (wpAny_comprehension_free (use := some (assign (.Name y py) X.env)) (Q := fun _ s' => SP X pins D0 .next s') rfl hs hclos hkind hnames
    (thn (hi pins s σ H _ I h) fun v s1 h1 => thn h1 fun itv s2 h2 => ?_)) (fun _ s' hq => wpAny_pure (wpAny_pure hq)) fun _ _ e => e)
  obtain ⟨it, fp, tn, J, H2, e, I2, T, st2, f2, R⟩ := h2
  subst e
  refine thn (zLw hc hcell hkind hx hcl hfree hfr hnd ht he I2 T st2 f2 R) fun acc s3 h3 => thn h3 fun cenv s4 h4 => codeAny_mono h4 fun r s' q => ?_
  cases r with
  | error e => exact q.elim
  | ok f =>
    obtain ⟨D, H', m, rfl, I', hn, fC, q⟩ := q
    obtain ⟨f0, f1, _, f3, f4, f5⟩ := fC
    show wpAny _ _ (assign (.Name y py) X.env (.ref D)) _ _ _
    refine wpAny_assign_Name (zMf I' hN hiy hy (v := .ref D) rfl (fun s'' I'' ⟨a, sb, ha⟩ => ?_) hf)
    have hCa : cenv.locals ≠ a := by
      rcases ha with rfl | ha
      · exact f1
      · exact Ne.symm (f4 y a ha)
    refine ⟨m, hn.sameBut sb hCa, fun h' sb' => ⟨_, H', I''.turned (t' := s''.toks) (fun b o hb e => (sb'.2 b hb).trans e) f0 f1 f3 f4 f5, q⟩⟩
end
section
variable {K : W.Frag} {σ : St} {H : Hp} {Q : VK} {is : List Nat} {tt : TT} {te : TE}
def zSi (K:W.Frag) (is:List Nat) (tt:TT) (te:TE) (σ:St) (Q:VK) (x:V) (H:Hp):Prop:=∃ a,x = .ref a∧(∃ xs,SqL K H a xs)∧zQf is tt te σ Q (Itl K a) H
theorem zUS {tl:TE} (h:tl σ H (zSi K is tt te σ Q)):zQp is (zVx K tl) tt te σ H Q:=h
def NxC (n:Nat) (Pv:Nat→List V→Hp→Prop) (i:Nat) (ys:List V) (H:Hp):Prop:=∃ m',m' < n - i∧m'=n - (i+1)∧i+1≤n∧Pv (i+1) ys H
theorem nxC {n:Nat} {Pv:Nat→List V→Hp→Prop} {i:Nat} {ys:List V} {H:Hp} (h:i < n) (p:Pv (i+1) ys H):NxC n Pv i ys H:=⟨_,by omega,rfl,h,p⟩
theorem zUt {s:St} {R:Bool→Hp→Prop} (h:R true H):zUy s H R:=h
def zSp (is:List Nat) (tt:TT) (te:TE) (σ:St) (Q:VK) (vs:List V) (H:Hp):Prop:=∃ j:Int,vs=[.int j] ∧ -(2 ^ 62)≤j∧j < 2 ^ 62∧zQf is tt te σ Q (Itr 0 j.toNat) H
theorem zTs {ta:TA} (h:ta σ H (zSp is tt te σ Q)):zQp is (zTV ta) tt te σ H Q:=h
end
section
variable {K : W.Frag} {σ : St} {H : Hp} {Q : VK}
theorem zTM {r:V→Option Int→Option Int→Hp→VK→Prop} {te:TE} {tl th:TO} (h:te σ H fun x H1=>tl σ H1 fun l H2=>th σ H2 fun u H3=>r x l u H3 Q):tSl r te tl th σ H Q:=h
theorem zRv {R:Option Int→Hp→Prop} (h:R none H):zP2 σ H R:=h
theorem zWK {t:TE} {R:Option Int→Hp→Prop} (h:t σ H fun x H1=>∃ i,x = .int i∧R (some i) H1):zVw t σ H R:=h
theorem zUI {i:Int} {R:Int→Prop} (h:R i) : ∃ k,V.int i = .int k∧R k:=⟨i,rfl,h⟩
theorem zQZ {l b:Addr} {xs zs:List V} (h1:H l=some (.lst xs)) (h2:H b=some (.lst zs)) (hz:xs.length+zs.length≤sizeLine) (q : ∀ p H',Same H H'→H' p=some (.lst (xs++zs))→Q (.ref p) H'):rCat (.ref l) (.ref b) H Q:=
 ⟨l,b,xs,zs,rfl,rfl,h1,h2,hz,fun p hp=>q p _ (zE7 hp _) zAU⟩
end
section
variable {X : Cx}
theorem zIv : ∀ {us:List Value} {ns:List Int},IntsAre us ns→Vals (ns.map V.int) us
 | _,_,.nil=>.nil
 | _,_,.cons n t h=>.cons ⟨t,rfl⟩ (zIv h)
def zPg (K:W.Frag):List V→Hp→VK→Prop:=fun xs H Q=>∃ (p:Addr) (ns:List Int),xs=[.ref p]∧SqL K H p (ns.map V.int)∧ns.length < 64 ∧
 ∀ (ms:List Int) (q:Addr) (H':Hp),ms.Perm ns→ms.Pairwise (· ≤ ·)→Same H H'→H' q=some (.lst (ms.map V.int))→Q (.ref q) H'
theorem zMx:zGH X (.builtin "sorted") (zPg X.K):=by
 intro pins s σ H xs us Q I r h
 obtain ⟨p,ns,rfl,hq,h64,q⟩:=h
 obtain ⟨u,rfl,rx⟩:=zO7 r
 cases rx
 obtain ⟨its,r',pl,hz⟩:=I.list hq
 have hl:=r'.length
 rw [List.length_map] at hl hz
 refine sorted_ints pl.isList (zOR r') (by omega) fun out ms hi hp hs=>?_
 obtain ⟨e,he⟩:=sortedAll_at s.heap its out
 have hms:ms.length=ns.length:=hp.length_eq
 have hf:H (s.heap.objs.size+1)=none:=I.hok.fresh (Nat.le_succ _)
 refine ⟨.ref (s.heap.objs.size+1),upd H (s.heap.objs.size+1) (.lst (ms.map V.int)),I.laid (t':=s.toks) (fun _ _=>sortedAll_old) (Nat.le_succ _) ⟨by rw [List.length_map,hms];exact hz,out.toList,e,zIv hi,?_⟩,rfl,q _ _ _ hp hs (zE7 hf _) zAU⟩
 rw [he,Array.toArray_toList]
theorem zRV {K:W.Frag} {H:Hp} {Q:VK} {p:Addr} {ns:List Int} (h:SqL K H p (ns.map V.int)) (h64:ns.length < 64) (q : ∀ (ms:List Int) (q:Addr) (H':Hp),ms.Perm ns→ms.Pairwise (· ≤ ·)→Same H H'→H' q=some (.lst (ms.map V.int))→Q (.ref q) H'):zPg K [.ref p] H Q:=⟨p,ns,rfl,h,h64,q⟩
theorem zLb:bootBuiltins "sorted" = some (.builtin "sorted"):=by decide +kernel
end
set_option maxHeartbeats 400000
abbrev VEB:List Value:=[.type "ValueError", .type "Exception", .type "BaseException", .type "object"]
structure Exc (K:W.Frag) (C:Addr):Prop where
 ex:W.excIn K C VEB "ValueError.__new__" = true
 h1:W.findIn K (.ref C) "__getattribute__" = some (some (.builtin "BaseException.__getattribute__"))
 h2:W.findIn K (.ref C) "__getattr__" = some none
 hb:W.mroIn K C (.type "BaseException")=some true
 hd:W.hasDictIn K C=true
 ha:W.findIn K (.ref C) "__class__" = some (some (.builtin "object.__class__"))
 hn:W.specialIn K (.builtin "object.__class__") "__get__" = some (some (.builtin "getset_descriptor.__get__"))
 ht:W.takesIn K (.builtin "object.__class__")=some true
 hm:W.mroIn K C (.type "object")=some true
def ExAt (x C:Addr) (h:Heap):Prop:=∃ o,h.get? x=some o∧o.cls = .ref C ∧ ∃ vs,o.data = .fields vs
theorem ExAt.keep {x C:Addr} {h h':Heap} (e:ExAt x C h) (k : ∀ o,h.get? x=some o→h'.get? x=some o):ExAt x C h':=let ⟨o,a,b⟩:=e;⟨o,k o a,b⟩
section
open PySem.W PySem.Calls Builtin Builtin.ObjectAttr Builtin.Getset_descriptor
variable {K : Frag} {x C : Addr} {M : Model} {h : Heap}
theorem ExAt.ty (e:ExAt x C h):Looks M h (typeOf (.ref x)) (.ref C):=by
 obtain ⟨o,h1,h2,_⟩:=e
 rw [← h2]
 exact (Looks.ld h1).andThen .now
variable {prog : Program} {w : World} {A : Around} {E : Value → Shared → Prop} {s : Shared}
end
def CXE (P:Program) (w:World):CXT:=fun outer H s E e s'=>∃ (x C:Addr) (a0:Value) (H':Hp) (B:Heap),e = .ref x∧s'.os=s.os∧AllBare s'.gens∧Heap.FlyingW B outer x (.ref C) a0 s'.heap ∧
 (∀ h',B.StaysIn h'→s'.heap.UpToSlots h'→Un (frs outer) [] H H' s.heap h'∧HOk P w H' h')∧s.heap.get? x=none∧H' x=none∧E (.ref C) none H'
theorem zEp.is {P:Program} {w:World} {H:Hp} {h:Heap} {a:Addr} {o:HO} (x:zEp P w H h a o) : ∃ ob,h.get? a=some ob:=by
 cases o with
 | lst xs=>obtain ⟨_,_,_,_,e⟩:=x;exact ⟨_,e⟩
 | tup xs=>obtain ⟨_,_,_,ob,e,_⟩:=x;exact ⟨_,e⟩
 | dK kvs=>obtain ⟨_,_,_,_,ob,_,_,e,_⟩:=x;exact ⟨_,e⟩
 | dT kvs=>obtain ⟨_,_,_,_,ob,_,_,e,_⟩:=x;exact ⟨_,e⟩
 | set S n=>first | (obtain ⟨ob,e,_⟩:=x;exact ⟨_,e⟩) | (obtain ⟨ob,es,e,_⟩:=x;exact ⟨_,e⟩) | (obtain ⟨ob,es,ep,e,_⟩:=x;exact ⟨_,e⟩) | (obtain ⟨ob,es,ep,z,e,_⟩:=x;exact ⟨_,e⟩)
 | ins C dx fs=>obtain ⟨_,_,_,e,_⟩:=x;exact ⟨_,e⟩
 | own y=>exact x
 | xd fs=>obtain ⟨_,⟨ob,_,_,e,_⟩,_⟩:=x;exact ⟨_,e⟩
 | met f y=>exact ⟨_,x⟩
 | rng lo hi=>obtain ⟨_,_,_,e⟩:=x;exact ⟨_,e⟩
 | frz o u=>exact ⟨_,x.1⟩
 | tbl ps=>exact ⟨_,x⟩
 | ext φ=>exact x.2.1
section
variable {P : Program} {w : World} {K : W.Frag} {mg : Str → Option Value} {base : Heap} {N : List Str} {qual : Str} {scope : Scope} {f : Addr} {cd : Value} {A : Around} {outer : List Env} {s : Shared} {H : Hp} {E : XK}
theorem zJl {pins : List (Addr × Obj)} {σ : St} {H1 : Hp} {s1 : Shared} {h' : Heap} {x C : Addr} {args : List Value}
    (I : Inv (cxOf (CXE P w) P w K mg base N qual scope f cd A outer s H E) pins σ H1 s1) (hm : Heap.MadeExcOf s1.heap h' x (.ref C) args) (q : E (.ref C) none H1) :
    (cxOf (CXE P w) P w K mg base N qual scope f cd A outer s H E).xe (.ref x) { s1 with heap := h' } := by
  have hst : ∀ b ∈ frs (envOfC qual scope s.heap.objs.size f cd :: outer), H1 b = none := I.stkFree
  have hin : ∀ env ∈ (envOfC qual scope s.heap.objs.size f cd :: outer), ∀ b, env.frame = some b → b ∈ frs (envOfC qual scope s.heap.objs.size f cd :: outer) := fun env he b hb => List.mem_filterMap.mpr ⟨env, he, hb⟩
  have FF : s1.heap.FunFrames base (envOfC qual scope s.heap.objs.size f cd :: outer) := I.stack
  have old : ∀ b o, s.heap.get? b = some o → b ≠ s.heap.objs.size := fun b o e => Nat.ne_of_lt (Heap.lt_size e)
  have sub : ∀ b, b ∈ frs (envOfC qual scope s.heap.objs.size f cd :: outer) → b = s.heap.objs.size ∨ b ∈ frs outer := fun b hb => List.mem_cons.mp (I.stkSub b hb)
  refine wpAny_leaves_madeW (base := W.hideAll s1.heap (frs (envOfC qual scope s.heap.objs.size f cd :: outer))) I.ok.frames rfl (fun b o e => W.of_hideAll _ e) (W.funFrames_hide FF hin) hm fun h2 t f1 f2 f3 f4 => ?_
  refine ⟨x, C, .ref t, H1, _, rfl, I.os, I.bare, f1, fun h3 st sm => ?_, ?_, ?_, q⟩
  · have here : ∀ b o, s1.heap.get? b = some o → b ∉ frs (envOfC qual scope s.heap.objs.size f cd :: outer) → h3.get? b = some o := fun b o e n => st b o (W.hideAll_get _ e n)
    have fram : ∀ b o, s1.heap.get? b = some o → b ∈ frs (envOfC qual scope s.heap.objs.size f cd :: outer) → ∃ sl, h3.get? b = some { o with slots := sl } := fun b o e m => by
      obtain ⟨_, o', e', nf⟩ := FF.mem m
      have z : o' = o := Option.some.inj (e'.symm.trans e)
      subst z
      obtain ⟨sl, e2⟩ := f4 b o' (hm.keeps b o' e) nf
      obtain ⟨sl', e3⟩ := sm b _ e2 nf
      exact ⟨sl', e3⟩
    refine ⟨⟨fun b o e n hb hx => ?_, fun b o e n hb hx => ?_, fun b o e n hx => I.base.free b o e n hx, fun b o e hx => ?_, I.base.tups, I.base.frzs, I.base.tbls⟩, fun a u e => ?_⟩
    · exact here b o (I.base.keep b o e n hb hx) fun z => (sub b z).elim (old b o e) hb
    · obtain ⟨sl, e1⟩ := I.base.slot b o e n hb hx
      have mem : b ∈ frs (envOfC qual scope s.heap.objs.size f cd :: outer) := by
        show b ∈ List.filterMap _ _
        rw [List.filterMap_cons]
        exact List.mem_cons_of_mem _ hb
      obtain ⟨sl', e2⟩ := fram b _ e1 mem
      exact ⟨sl', e2⟩
    · obtain ⟨o', e1⟩ := I.base.there b o e hx
      by_cases mem : b ∈ frs (envOfC qual scope s.heap.objs.size f cd :: outer)
      · obtain ⟨sl, e2⟩ := fram b o' e1 mem
        exact ⟨_, e2⟩
      · exact ⟨o', here b o' e1 mem⟩
    · refine (I.hok a u e).stay (fun b ob hb eb => here b ob eb fun z => ?_) (fun _ z => z) (fun _ _ z => z)
      have := hst b z
      rcases hb with rfl | hb
      · rw [e] at this; cases this
      · rw [hb] at this; cases this
  · cases z : s.heap.get? x with
    | none => rfl
    | some o =>
      obtain ⟨o', e1⟩ := I.base.there x o z (fun h => nomatch h)
      have := hm.new
      rw [e1] at this; cases this
  · cases z : H1 x with
    | none => rfl
    | some o =>
      obtain ⟨ob, e1⟩ := (I.hok x o z).is
      have := hm.new
      rw [e1] at this; cases this
end
theorem zPm {K:W.Frag} {h:Heap} {C:Addr} (X:K.In h) (c:Exc K C) : ∃ tl N nm q bs hdct sn sub ab col dd k0 k1 k2 k3 k5 mN,
  h.get? C=some (excClassObj nm q C N bs tl hdct sn sub ab col dd k0 k1 k2 k3 k5 "ValueError.__new__")∧h.Ns N mN∧mN "__init__" = none∧OwnTail h VEB tl:=by
 have q:=c.ex
 unfold W.excIn at q
 split at q
 ·rename_i dd cd sl ho
  split at q
  ·rename_i C' bm k0 k1 k2 k3 n k5 hm hs
   simp only [Bool.and_eq_true,beq_iff_eq,Bool.not_eq_true'] at q
   obtain ⟨⟨⟨⟨⟨z1,z2⟩,hdel⟩,ht⟩,hok⟩,hni⟩:=q
   subst z1 z2
   obtain ⟨nm,bs,mro,ns,qn,hdc,sn,sub,ab,col,del⟩:=cd
   dsimp only at hm hdel hok hni
   subst hm hdel
   have hsl:sl = #[k0,k1,k2,k3,some (.builtin "ValueError.__new__"),k5]:=by
    cases sl with
    | mk l=>simp only at hs;rw [hs]
   subst hsl
   refine ⟨bm,ns,nm,qn,bs,hdc,sn,sub,ab,col,dd,k0,k1,k2,k3,k5,h.nsMap ns,X _ _ ho,?_,?_,W.tail_of_in X ht⟩
   ·exact .of_isNs (W.isNs_of_in X hok)
   ·exact W.nsMap_none_of_in X hok hni
  ·cases q
 ·cases q
def zQ8 (X:Cx) (E:XK):Prop:=∀ (pins:List (Addr × Obj)) (σ:St) (H:Hp) (s:Shared) (h':Heap) (x C:Addr) (args:List Value),Inv X pins σ H s→Heap.MadeExcOf s.heap h' x (.ref C) args→E (.ref C) none H→X.xe (.ref x) { s with heap:=h' }
def zS4 (C:Addr) (E:XK) (t:TA):TS:=fun _ σ H=>t σ H fun vs H1=>vs.length≤sizeLine∧E (.ref C) none H1
theorem zF6 {X:Cx} {x:Str} {C:Addr} {E:XK} {np cpos pos:Pos} {e:Expr} {es:List Expr} {t:TA} (tk:zQ8 X E) (hc:X.calm=true) (c:Exc X.K C) (hg:Gl X x) (hm:X.mg x=some (.ref C)) (ha:PA X (e::es) t)
  (hdb:(x == ("__debug__" : Str))=false:=by decide) (he:starEach (e::es) X.env=(false,eval e X.env)::starEach es X.env:=by rfl) (hpl:(backTo cpos (starEach es X.env)).any (·.1)=false:=by rfl) :
  PS X (.Raise (some (.Call (.Name x np) (e::es) [] cpos)) none pos) (zS4 C E t):=by
 intro pins s σ H D I h
 obtain ⟨tl,N,nm,q,bs,hdct,sn,sub,ab,col,dd,k0,k1,k2,k3,k5,mN,hC,hN,hni,T⟩:=zPm I.ok.mod.kin c
 refine wpAny_Raise_call_subT (C:=C) (bm:=tl) (mN:=mN) (N:=N) (nm:=nm) (q:=q) (bs:=bs) (hdct:=hdct) (sn:=sn) (sub:=sub) (ab:=ab) (col:=col) (dd:=dd) (k0:=k0) (k1:=k1) (k2:=k2) (k3:=k3) (k5:=k5) PySem.F.excBase_ValueError (T.hasType PySem.F.excBase_ValueError.hasBase) (I.ok.hd hc) (by rw [he];show (false || (backTo cpos (starEach es X.env)).any (·.1))=false;rw [hpl];rfl) hni (zCq I hg hm ⟨rfl,?_⟩ hdb)
 have z:=ha cpos pins s σ H _ I h
 rw [he] at z ⊢
 refine Calls.evalArgs_plain (thn z fun us s1 ⟨vs,H1,I1,r,hl,qe⟩=>?_)
 have hv:us.length≤sizeLine:=by rw [← r.length];exact hl
 exact ⟨rfl,hv,I1.bk _ _ hC,hN.keeps I1.bk,T.keeps I1.bk,fun h' y hm'=>tk pins σ H1 s1 h' y C us I1 hm' qe⟩
def HasX (P:Program) (w:World) (K:W.Frag) (mg:Str→Option Value) (base:Heap) (x:Str) (k:Nat) (ps:List Str) (sp:Sp):Prop:=
 ∃ (f:Addr) (fd:FuncData),FnOk P w K mg base (CXE P w) k f fd ps sp∧mg x=some (.ref f)∧W.keepIn K (.ref f)=true∧zB7 K fd ps []
def XP (X:Cx) (pins:List (Addr × Obj)) (σ:St) (E:XK) (e:Value) (s':Shared):Prop:=∃ H1 s1,Inv X pins σ H1 s1∧CXE X.prog X.w X.stack H1 s1 E e s'
def Cx.inExc (X:Cx) (x:Addr):Cx:={ X with A:=X.A.mark (some (.ref x)),calm:=false,xe:=fun _ _=>False }
section
variable {X : Cx} {pins : List (Addr × Obj)} {σ : St} {H : Hp} {s : Shared}
theorem Cx.Ok.inExc (ok:X.Ok) (x:Addr):(X.inExc x).Ok:=
 ⟨ok.mod,ok.kind,ok.glob,ok.blt,ok.above,ok.inj,ok.has,ok.cab,(fun z=>nomatch z),ok.frames,ok.stk,ok.exf,ok.bs,ok.bsz,ok.noex,ok.exfs,ok.funs,ok.frf⟩
theorem Inv.inExc (I:Inv X pins σ H s) (x:Addr):Inv (X.inExc x) pins σ H s:=⟨I.ok.inExc x,I.os,I.bare,I.base,I.loc,I.cell,I.free,I.freeC,I.pin,I.hok,I.len⟩
theorem Inv.outExc {x:Addr} (ok:X.Ok) (I:Inv (X.inExc x) pins σ H s):Inv X pins σ H s:=⟨ok,I.os,I.bare,I.base,I.loc,I.cell,I.free,I.freeC,I.pin,I.hok,I.len⟩
end
section
variable {X : Cx} {H : Hp} {Q : VK} {K : W.Frag}
theorem Fun.okX {P:Program} {w:World} {K:W.Frag} {mg:Str→Option Value} {base:Heap} {x qual:Str} {st:Stmt} {f:Addr} {fd:FuncData} {N ps:List Str} {k:Nat} {sp:Sp} (F:Fun K x qual st f fd) (S:zAR N ps (zAF st)) (len : ∀ vs H Q E,sp vs H Q E→vs.length=ps.length)
  (hbody : ∀ (cdv:Value) (A:Around) (outer:List Env) (s:Shared) (H:Hp) (vs:List V) (Q:VK) (E:XK),Room k (A.deeper (envOfC qual (zAF st) s.heap.objs.size f cdv))→sp vs H Q E →
   zQ8 (cxOf (CXE P w) P w K mg base N qual (zAF st) f cdv A outer s H E) E → ∃ t,PSs (cxOf (CXE P w) P w K mg base N qual (zAF st) f cdv A outer s H E) (zAK st) t∧t { nx:=fun _ H'=>Q .non H',rt:=Q } (start N vs) H):FnOk P w K mg base (CXE P w) (k+1) f fd ps sp:=by
 obtain ⟨oc,od,kV,doc,pm,an,cdv,ct,osl,rfl,lk,hcd⟩:=F.ex
 exact zPv lk hcd S len fun A outer s H vs Q E hr hsp=>hbody cdv A outer s H vs Q E hr hsp fun pins σ H s h' x C args I hm q=>zJl I hm q
theorem FnOk.calm {P : Program} {w : World} {K : W.Frag} {mg : Str → Option Value} {base : Heap} {k : Nat} {f : Addr} {fd : FuncData} {ps : List Str} {sp : Sp} (F : FnOk P w K mg base (CXE P w) k f fd ps sp) : FnOk P w K mg base CX0 k f fd ps (fun vs H Q _ => sp vs H Q E0) :=
  ⟨fun vs H Q _ h => F.len vs H Q E0 h, fun A outer s H args us vs Q _ hr he hb hv hs => codeAny_mono (F.run A outer s H args us vs Q E0 hr he hb hv hs) fun r s' hq => by
    cases r with
    | ok fl => cases fl <;> exact hq
    | error e =>
      obtain ⟨_, _, _, _, _, _, _, _, _, _, _, _, z⟩ := hq
      exact z.elim⟩
end
section
variable {X : Cx} {H : Hp} {Q : VK} {K : W.Frag} {σ : St} {pos p1 p2 : Pos} {n1 n2 : Nat} {a b : Int}
def dctO (p:Addr):HO:=.ext (W.KitAt p "dict")
inductive Odd (H:Hp):V→Prop where
 | non:Odd H .non
 | bl (b:Bool):Odd H (.bl b)
 | str (x:Str):Odd H (.str x)
 | lst {p:Addr} {xs:List V} (e:H p=some (.lst xs)):Odd H (.ref p)
 | tup {p:Addr} {xs:List V} (e:H p=some (.tup xs)):Odd H (.ref p)
 | dct {p:Addr} (e:H p=some (dctO p)):Odd H (.ref p)
theorem Odd.same {H H':Hp} {v:V} (h:Odd H v) (g:Same H H'):Odd H' v:=by
 cases h with
 | non=>exact .non
 | bl b=>exact .bl b
 | str x=>exact .str x
 | lst e=>exact .lst (g _ _ e)
 | tup e=>exact .tup (g _ _ e)
 | dct e=>exact .dct (g _ _ e)
def zNe (K:W.Frag):List V→Hp→VK→Prop:=fun xs H Q=>rIsi K xs H Q ∨ ∃ p T b,xs=[.ref p,.ty T]∧H p=some (dctO p)∧W.kitOne K (.type "dict") (.type T)=some b∧Q (.bl b) H
theorem zQT {i:Bool} {T:String} {b:Bool} (e:W.kitOne K (.type "bool") (.type T)=some b) (q:Q (.bl b) H):zNe K [.bl i,.ty T] H Q:=.inl (zF8 (.bl i) ⟨_,.inl rfl⟩ e q)
theorem zO3 {x:Str} {T:String} {b:Bool} (e:W.kitOne K (.type "str") (.type T)=some b) (q:Q (.bl b) H):zNe K [.str x,.ty T] H Q:=.inl (zF8 (.str x) ⟨_,.inl rfl⟩ e q)
theorem zPG {T:String} {b:Bool} (e:W.kitOne K (.type "NoneType") (.type T)=some b) (q:Q (.bl b) H):zNe K [.non,.ty T] H Q:=.inl (zF8 .non ⟨_,.inl rfl⟩ e q)
theorem zOw {p:Addr} {xs:List V} {T:String} {b:Bool} (h:H p=some (.lst xs)) (e:W.kitOne K (.type "list") (.type T)=some b) (q:Q (.bl b) H):zNe K [.ref p,.ty T] H Q:=.inl (zF8 (.lst h) ⟨_,.inl rfl⟩ e q)
theorem zO6 {p:Addr} {xs:List V} {T:String} {b:Bool} (h:H p=some (.tup xs)) (e:W.kitOne K (.type "tuple") (.type T)=some b) (q:Q (.bl b) H):zNe K [.ref p,.ty T] H Q:=.inl (zF8 (.tup h) ⟨_,.inl rfl⟩ e q)
theorem zOL {p:Addr} {T:String} {b:Bool} (h:H p=some (dctO p)) (e:W.kitOne K (.type "dict") (.type T)=some b) (q:Q (.bl b) H):zNe K [.ref p,.ty T] H Q:=.inr ⟨p,T,b,rfl,h,e,q⟩
theorem Odd.int {v:V} (h:Odd H v) (q1:Q (.bl true) H) (q0:Q (.bl false) H):zNe K [v,.ty "int"] H Q:=by
 cases h with
 | non=>exact zPG (zJA K) q0
 | bl b=>exact zQT (zLW K) q1
 | str x=>exact zO3 (zMh K) q0
 | lst e=>exact zOw e (zMD K) q0
 | tup e=>exact zO6 e (zK3 K) q0
 | dct e=>exact zOL e (zLV K) q0
theorem zQO {C:Addr} {E:XK} {t:TA} {D:Ends} {σ:St} (h:t σ H fun vs H1=>vs.length≤sizeLine∧E (.ref C) none H1):zS4 C E t D σ H:=h
def spc (sp:Sp):Sp:=fun vs H Q _=>sp vs H Q E0
def Nm (K:W.Frag) (x:Str) (C:Addr):Prop:=W.nsIn K mainGlobals x=some (some (.ref C))
theorem Nm.eq {x:Str} {C C':Addr} (h:Nm K x C) (h':Nm K x C'):C=C':=by
 have:=h.symm.trans h'
 cases this;rfl
theorem zA2 {c:Const} {n:Nat} {p:Pos} {es:List Expr} {env:Env}:starEach (.Constant c n p::es) env=(false,eval (.Constant c n p) env)::starEach es env:=rfl
theorem zBP {x:Str} {p:Pos} {es:List Expr} {env:Env}:starEach (.Name x p::es) env=(false,eval (.Name x p) env)::starEach es env:=rfl
theorem zBA {a b:Expr} {p:Pos} {es:List Expr} {env:Env}:starEach (.Subscript a b p::es) env=(false,eval (.Subscript a b p) env)::starEach es env:=rfl
theorem zAf {a:Expr} {x:Str} {p:Pos} {es:List Expr} {env:Env}:starEach (.Attribute a x p::es) env=(false,eval (.Attribute a x p) env)::starEach es env:=rfl
theorem zOO {a:Expr} {os:List CmpOp} {bs:List Expr} {p:Pos} {es:List Expr} {env:Env}:starEach (.Compare a os bs p::es) env=(false,eval (.Compare a os bs p) env)::starEach es env:=rfl
theorem zV8 {T:String} {r:V→List V→Hp→VK→Prop} {to:TE} {t:TA} (h:to σ H fun x H1=>tyV K T x H1∧t σ H1 fun xs H2=>r x xs H2 Q):tBM K T r to t σ H Q:=h
theorem zSk {p:Addr} {xs:List V} {R:Prop} (h:SqL K H p xs) (q:R):tyV K "list" (.ref p) H∧R:=⟨.inl ⟨rfl,_,h⟩,q⟩
theorem zLO {l:Addr} {xs:List V} {y:V} (h:H l=some (.lst xs)) (h2:xs.length < sizeLine) (q:Q .non (upd H l (.lst (xs++[y])))):zMg (.ref l) [y] H Q:=⟨l,xs,y,rfl,rfl,h,h2,q⟩
def SB (r:Addr) (H F:Hp):Prop:=∀ b o,b≠r→H b=some o→F b=some o
theorem SB.put {r:Addr} {H F:Hp} {o:HO} (h:SB r H F):SB r H (upd F r o):=fun b u n e=>by rw [zBV n];exact h b u n e
theorem SB.refl {r:Addr} {H:Hp}:SB r H H:=fun _ _ _ e=>e
theorem SB.same {r:Addr} {H F:Hp} (h:SB r H F) (n:H r=none):Same H F:=fun b o e=>h b o (zCH e n) e
end
section
variable {X : Cx} {H : Hp} {Q : VK} {K : W.Frag}
def zRL:R2:=fun x y H Q=>∃ i j:Str,x = .str i∧y = .str j∧i.length+j.length≤sizeLine∧Q (.str (i++j)) H
theorem zBe:OpR X (binaryOp .Add) zRL:=zOd
theorem zVQ {i j:Str} (hz:i.length+j.length≤sizeLine) (q:Q (.str (i++j)) H):zRL (.str i) (.str j) H Q:=⟨i,j,rfl,rfl,hz,q⟩
theorem zWP {z:Str} {i:Int} {c:Nat} (hz:z.length≤sizeLine) (e:atI z.cps.toList i=some c) (q:Q (.str ⟨#[c]⟩) H):rIxS (.str z) (.int i) H Q:=⟨z,i,c,rfl,rfl,hz,e,q⟩
def zRT:List V→Hp→VK→Prop:=fun xs H Q=>∃ z:Str,xs=[.str z]∧z.length≤sizeLine∧Q (.int z.length) H
theorem zAu:zGH X (.builtin "len") zRT:=zMC
theorem zVS {z:Str} (hz:z.length≤sizeLine) (q:Q (.int z.length) H):zRT [.str z] H Q:=⟨z,rfl,hz,q⟩
def rInS:R2:=fun x y H Q=>∃ i j:Str,x = .str i∧y = .str j∧Q (.bl (!(Builtin.Str.occurrences j i 0 j.length 1).isEmpty)) H
theorem zQB:OpR X (compareOp .In) rInS:=zQK
theorem zWA {i j:Str} (q:Q (.bl (!(Builtin.Str.occurrences j i 0 j.length 1).isEmpty)) H):rInS (.str i) (.str j) H Q:=⟨i,j,rfl,rfl,q⟩
theorem zSr {i j:Str} (q:Q (.bl (decide (i=j))) H):rEq (.str i) (.str j) H Q:=zOn rfl q
theorem zRI {x:Str} (q:Q (.bl true) H):rIsi K [.str x,.ty "str"] H Q:=zF8 (.str x) ⟨_,.inl rfl⟩ (zNI K) q
def rSlS:V→Option Int→Option Int→Hp→VK→Prop:=fun x lo hi H Q=>∃ z:Str,x = .str z∧z.length≤sizeLine∧Q (.str (Txt.slice z lo hi)) H
theorem zEW:SlR X rSlS:=by
 intro pins s σ H x v vl vu lo hi sl Q I rx hs pl pu h
 obtain ⟨z,rfl,hz,q⟩:=h
 obtain ⟨t,rfl⟩:=rx
 refine ⟨"str", _,PySem.F.slot_str_getitem.lookup,typeIs_str _ _ _,?_⟩
 have fin : ∀ (t':Tok) (k:Nat),EP X pins σ Q (.str (Txt.slice z lo hi) t') { s with toks:=k }:=fun t' k=>⟨.str _,H,I.tok _,⟨t',rfl⟩,q⟩
 have le:=Nat.le_trans (Txt.slice_le z lo hi) hz
 cases pl <;> cases pu
 ·exact wpAny_getItem_str_slice (l:=none) (u:=none) (st:=none) hs rfl (post_val_or_str ⟨le,fin⟩)
 ·exact wpAny_getItem_str_slice (l:=none) (u:=some (_,_)) (st:=none) hs rfl (post_val_or_str ⟨le,fin⟩)
 ·exact wpAny_getItem_str_slice (l:=some (_,_)) (u:=none) (st:=none) hs rfl (post_val_or_str ⟨le,fin⟩)
 ·exact wpAny_getItem_str_slice (l:=some (_,_)) (u:=some (_,_)) (st:=none) hs rfl (post_val_or_str ⟨le,fin⟩)
theorem zRw {z:Str} {lo hi:Option Int} (hz:z.length≤sizeLine) (q:Q (.str (Txt.slice z lo hi)) H):rSlS (.str z) lo hi H Q:=⟨z,rfl,hz,q⟩
end
abbrev Lt (x:Str):List Nat:=x.cps.toList
def T (l:List Nat):Str:=⟨l.toArray⟩
theorem Lt_T (l:List Nat):Lt (T l)=l:=rfl
theorem T_Lt (x:Str):T (Lt x)=x:=by cases x;simp [T,Lt]
theorem zKl {x y:Str} (h:Lt x=Lt y):x=y:=by rw [← T_Lt x,← T_Lt y,h]
theorem T_eq {a b:List Nat}:T a=T b↔a=b:=⟨fun h=>by have:=congrArg Lt h;rwa [Lt_T,Lt_T] at this,fun h=>by rw [h]⟩
theorem zWk (x:Str):x.length=(Lt x).length:=rfl
theorem zXU (x y:Str):x++y=T (Lt x++Lt y):=zKl (by rw [Lt_T];show (x.cps++y.cps).toList=_;simp)
theorem zID {a b:List Nat} {i:Nat} (h:i < a.length):(a++b).getD i 0=a.getD i 0:=by
 rw [List.getD_eq_getElem?_getD,List.getD_eq_getElem?_getD,List.getElem?_append_left h]
theorem zMU {a b:List Nat} {i:Nat} (h:a.length≤i):(a++b).getD i 0=b.getD (i - a.length) 0:=by
 rw [List.getD_eq_getElem?_getD,List.getD_eq_getElem?_getD,List.getElem?_append_right h]
theorem zQg (l : List Nat) (a : Nat) : ∀ m : Nat, (List.range m).filterMap (fun k => l[a + k]?) = (l.drop a).take m
  | 0 => by simp
  | m + 1 => by
    rw [List.range_succ, List.filterMap_append, zQg l a m, List.take_succ]
    congr 1
    rw [List.getElem?_drop]
    rw [List.filterMap_cons]
    cases l[a + m]? <;> rfl
def cl (n d:Nat):Option Int→Nat
 | none=>d
 | some i=>(max 0 (min (if i < 0 then i+n else i) (n:Int))).toNat
theorem zLR (z:Str) (lo hi:Option Int):Txt.slice z lo hi=T (((Lt z).take (cl (Lt z).length (Lt z).length hi)).drop (cl (Lt z).length 0 lo)):=by
 have e:Builtin.Str.strSliceIndices lo hi 1 z.length=(List.range (cl (Lt z).length (Lt z).length hi - cl (Lt z).length 0 lo)).map (fun x=>cl (Lt z).length 0 lo+x):=by
  rw [← sliceRange_one]
  unfold Builtin.Str.strSliceIndices
  cases lo <;> cases hi <;> simp [cl,zWk,Int.toNat_of_nonneg,Int.le_max_left]
 have k:(List.filterMap (fun x=>z.cps[x]?) (Builtin.Str.strSliceIndices lo hi 1 z.length))=((Lt z).take (cl (Lt z).length (Lt z).length hi)).drop (cl (Lt z).length 0 lo):=by
  rw [e,List.filterMap_map]
  have f:((fun x=>z.cps[x]?) ∘ fun x=>cl (Lt z).length 0 lo+x)=fun k=>(Lt z)[cl (Lt z).length 0 lo+k]?:=by funext k;simp [Lt]
  rw [f,zQg,List.drop_take]
 unfold Txt.slice
 split
 ·rename_i h
  have hl:(Builtin.Str.strSliceIndices lo hi 1 z.length).length=(Lt z).length:=(by simpa using h:_=z.length)
  rw [e,List.length_map,List.length_range] at hl
  have b1:cl (Lt z).length (Lt z).length hi≤(Lt z).length:=by
   unfold cl;split <;> omega
  rcases Nat.eq_zero_or_pos (Lt z).length with p | p
  ·rw [List.eq_nil_of_length_eq_zero p];simp
   exact zKl (List.eq_nil_of_length_eq_zero p)
  ·rw [show cl (Lt z).length 0 lo=0 by omega,show cl (Lt z).length (Lt z).length hi=(Lt z).length by omega,List.take_length,List.drop_zero,T_Lt]
 ·rw [k];rfl
section
variable {X : Cx} {H : Hp} {Q : VK} {K : W.Frag}
theorem zSs {x y:Str} (hz:(Lt x).length+(Lt y).length≤16777216) (q:Q (.str (T (Lt x++Lt y))) H):zRL (.str x) (.str y) H Q:=zVQ hz (by rw [zXU];exact q)
theorem zSl {z:Str} (hz:(Lt z).length≤16777216) (q:Q (.int (Lt z).length) H):zRT [.str z] H Q:=zVS hz q
theorem zR5 {z:Str} {i:Int} (hz:(Lt z).length≤16777216) (h0:0≤i) (h1:i < (Lt z).length) (q:Q (.str (T [(Lt z).getD i.toNat 0])) H):rIxS (.str z) (.int i) H Q:=by
 refine zWP (c:=(Lt z).getD i.toNat 0) hz ?_ q
 unfold atI ixN
 rw [if_pos h0,if_pos h1]
 show (Lt z)[i.toNat]? = _
 rw [List.getD_eq_getElem?_getD,List.getElem?_eq_getElem (by omega)];rfl
theorem zJ5 {z:Str} {i:Int} (n:Nat) (hn:(Lt z).length=n) (hz:n≤16777216) (h0:0≤i) (h1:i < n) (q : ∀ c,c ∈ Lt z→Q (.str (T [c])) H):rIxS (.str z) (.int i) H Q:=by
 refine zR5 (by omega) h0 (by omega) (q _ ?_)
 rw [List.getD_eq_getElem?_getD,List.getElem?_eq_getElem (by omega)]
 exact List.getElem_mem _
theorem zUp {z:Str} (hz:(Lt z).length≤16777216) (h1:0 < (Lt z).length) (q:Q (.str (T [(Lt z).getD ((Lt z).length - 1) 0])) H):rIxS (.str z) (.int (-1)) H Q:=by
 refine zWP (c:=(Lt z).getD ((Lt z).length - 1) 0) hz ?_ q
 unfold atI ixN
 rw [if_neg (show ¬ (0:Int) ≤ -1 by decide),if_pos (show -((Lt z).length:Int) ≤ -1 by omega)]
 show (Lt z)[((-1:Int)+(Lt z).length).toNat]? = _
 rw [show ((-1:Int)+(Lt z).length).toNat=(Lt z).length - 1 by omega,List.getD_eq_getElem?_getD,List.getElem?_eq_getElem (by omega)];rfl
theorem zV3 {z:Str} {j:Int} (hz:(Lt z).length≤16777216) (h:0≤j) (q:Q (.str (T ((Lt z).take j.toNat))) H):rSlS (.str z) none (some j) H Q:=by
 refine zRw hz ?_
 rw [zLR]
 have e:(Lt z).take (cl (Lt z).length (Lt z).length (some j))=(Lt z).take j.toNat:=by
  unfold cl;dsimp only;rw [if_neg (by omega)]
  rcases Int.le_total j (Lt z).length with p | p
  ·rw [Int.min_eq_left p,Int.max_eq_right h]
  ·rw [Int.min_eq_right p,Int.max_eq_right (by omega),List.take_of_length_le (by omega),List.take_of_length_le (by omega)]
 rw [e];exact q
theorem zQP (l:List Nat) {i:Int} (h:0≤i) (n d:Nat) (hn:l.length≤n):l.drop (cl n d (some i))=l.drop i.toNat:=by
 unfold cl;dsimp only;rw [if_neg (by omega)]
 rcases Int.le_total i n with p | p
 ·rw [Int.min_eq_left p,Int.max_eq_right h]
 ·rw [Int.min_eq_right p,Int.max_eq_right (by omega),List.drop_of_length_le (by omega),List.drop_of_length_le (by omega)]
theorem zTv (l:List Nat) {i:Int} (h:0≤i) (d:Nat):l.take (cl l.length d (some i))=l.take i.toNat:=by
 unfold cl;dsimp only;rw [if_neg (by omega)]
 rcases Int.le_total i l.length with p | p
 ·rw [Int.min_eq_left p,Int.max_eq_right h]
 ·rw [Int.min_eq_right p,Int.max_eq_right (by omega),List.take_of_length_le (by omega),List.take_of_length_le (by omega)]
theorem zVX {z:Str} {i:Int} (hz:(Lt z).length≤16777216) (h:0≤i) (q:Q (.str (T ((Lt z).drop i.toNat))) H):rSlS (.str z) (some i) none H Q:=by
 refine zRw hz ?_
 rw [zLR,zQP _ h _ _ (by rw [List.length_take];omega)]
 show Q (.str (T (((Lt z).take (Lt z).length).drop i.toNat))) H
 rw [List.take_length];exact q
theorem zTD {z:Str} {i j:Int} (hz:(Lt z).length≤16777216) (h:0≤i) (h':0≤j) (q:Q (.str (T (((Lt z).take j.toNat).drop i.toNat))) H):rSlS (.str z) (some i) (some j) H Q:=by
 refine zRw hz ?_
 rw [zLR,zQP _ h _ _ (by rw [List.length_take];omega),zTv _ h']
 exact q
def zS9:R2:=fun x y H Q=>∃ (z:Str) (n:Int),x = .str z∧y = .int n∧n < 16777216 ∧ -16777216 < n∧(Lt z).length*n.toNat≤16777216∧Q (.str (T (List.replicate n.toNat (Lt z)).flatten)) H
theorem zML : ∀ (xs:List (Array Nat)) (a:Array Nat),(xs.foldl (fun x1 x2=>x1++x2) a).toList=a.toList++(xs.map Array.toList).flatten
 | [],a=>by simp
 | x::xs,a=>by rw [List.foldl_cons,zML xs];simp
theorem zXE (z:Str) (n:Int):Txt.mul z n=T (List.replicate n.toNat (Lt z)).flatten:=by
 unfold Txt.mul
 split
 ·rw [show n.toNat=0 by omega];rfl
 ·split
  ·rename_i h1 h2
   rw [Bool.or_eq_true] at h2
   rcases h2 with h | h
   ·have:n=1:=by simpa using h
    subst this
    show z=T ([Lt z].flatten)
    simp [T_Lt]
   ·have e:(Lt z).length=0:=(by simpa using h:z.length=0)
    have e':Lt z=[]:=List.eq_nil_of_length_eq_zero e
    refine zKl ?_
    rw [Lt_T,e']
    simp
  ·refine zKl ?_
   show (List.foldl (fun x1 x2=>x1++x2) #[] (List.replicate n.toNat z.cps)).toList=_
   rw [zML,List.map_replicate,Lt_T]
   simp
theorem zIK:OpR X (binaryOp .Mult) zS9:=by
 intro pins s σ H x y v u Q I rx ry h
 obtain ⟨z,n,rfl,rfl,h1,h2,h3,q⟩:=h
 obtain ⟨t,rfl⟩:=rx
 obtain ⟨t',rfl⟩:=ry
 refine SB.mul ⟨?_,fun h4 _=>?_,fun _ _=>?_⟩ fun t' k=>⟨.str _,H,I.tok _,⟨t',rfl⟩,by rw [zXE];exact q⟩
 ·rw [decide_eq_false (by omega),decide_eq_false (by omega)];rfl
 ·have e:((Lt z).length:Int)*n≤16777216:=by
   have:=Int.ofNat_le.mpr h3
   rw [Int.natCast_mul,Int.toNat_of_nonneg (by omega)] at this;exact this
  intro h5
  have h6:=Int.mul_le_of_le_ediv (c:=n) (by omega) (Int.le_refl ((2 ^ 63 - 1) / n))
  have h7:((2:Int) ^ 63 - 1) / n+1≤(Lt z).length:=h5
  have h8:=Int.mul_le_mul_of_nonneg_right h7 (show 0≤n by omega)
  have h9:=Int.lt_ediv_add_one_mul_self ((2:Int) ^ 63 - 1) (show 0 < n by omega)
  omega
 ·unfold Builtin.Str.tooLong
  exact decide_eq_false (by show ¬ (Lt z).length*n.toNat > 16777216;omega)
theorem zQR {c:Nat} {n:Int} (h1:n < 16777216) (h2 : -16777216 < n) (q:Q (.str (T (List.replicate n.toNat c))) H):zS9 (.str (T [c])) (.int n) H Q:=
 ⟨T [c],n,rfl,rfl,h1,h2,by rw [Lt_T,List.length_singleton,Nat.one_mul];omega,by rw [Lt_T,List.flatten_replicate_singleton];exact q⟩
theorem zPc {i j:Str} (q:Q (.bl (!decide (i=j))) H):rNe (.str i) (.str j) H Q:=⟨rfl,by
 have e:decide (V.str i=V.str j)=decide (i=j):=by
  by_cases h:i=j
  ·rw [decide_eq_true h,decide_eq_true (congrArg V.str h)]
  ·rw [decide_eq_false h,decide_eq_false (fun z=>h (V.str.inj z))]
 rw [e];exact q⟩
theorem zT6 {a b:List Nat} (hz:a.length+b.length≤16777216) (q:Q (.str (T (a++b))) H):zRL (.str (T a)) (.str (T b)) H Q:=zSs hz q
theorem zTo {a:List Nat} (hz:a.length≤16777216) (q:Q (.int a.length) H):zRT [.str (T a)] H Q:=zSl hz q
theorem zVZ {a:List Nat} {i:Int} (hz:a.length≤16777216) (h0:0≤i) (h1:i < a.length) (q:Q (.str (T [a.getD i.toNat 0])) H):rIxS (.str (T a)) (.int i) H Q:=zR5 hz h0 h1 q
theorem zTd {a:List Nat} (hz:a.length≤16777216) (h1:0 < a.length) (q:Q (.str (T [a.getD (a.length - 1) 0])) H):rIxS (.str (T a)) (.int (-1)) H Q:=zUp hz h1 q
theorem zT0 {a:List Nat} {j:Int} (hz:a.length≤16777216) (h:0≤j) (q:Q (.str (T (a.take j.toNat))) H):rSlS (.str (T a)) none (some j) H Q:=zV3 hz h q
theorem zTb {a:List Nat} {i:Int} (hz:a.length≤16777216) (h:0≤i) (q:Q (.str (T (a.drop i.toNat))) H):rSlS (.str (T a)) (some i) none H Q:=zVX hz h q
theorem zR7 {a:List Nat} {i j:Int} (hz:a.length≤16777216) (h:0≤i) (h':0≤j) (q:Q (.str (T ((a.take j.toNat).drop i.toNat))) H):rSlS (.str (T a)) (some i) (some j) H Q:=zTD hz h h' q
theorem zS1 {a b:List Nat} (q:Q (.bl (decide (a=b))) H):rEq (.str (T a)) (.str (T b)) H Q:=zSr (by
 have e:decide (T a=T b)=decide (a=b):=decide_eq_decide.mpr T_eq
 rw [e];exact q)
theorem zSx {a b:List Nat} (q:Q (.bl (!decide (a=b))) H):rNe (.str (T a)) (.str (T b)) H Q:=zPc (by
 have e:decide (T a=T b)=decide (a=b):=decide_eq_decide.mpr T_eq
 rw [e];exact q)
theorem zTS {x y:Str} {b:Bool} (h:decide (x=y)=b) (q:Q (.bl (!b)) H):rNe (.str x) (.str y) H Q:=zPc (by rw [h];exact q)
theorem zLK {p:Addr} {xs:List V} {i:Int} (h:SqL K H p xs) (h0:0≤i) (h1:i < xs.length) (q : ∀ x,xs[i.toNat]? = some x→Q x H):rIxL K (.ref p) (.int i) H Q:=by
 have h2:i.toNat < xs.length:=by omega
 have e:atI xs ((i.toNat:Nat):Int)=some xs[i.toNat]:=zTw (List.getElem?_eq_getElem h2)
 rw [show ((i.toNat:Nat):Int)=i by omega] at e
 exact zOM h e (q _ (List.getElem?_eq_getElem h2))
def zQo:V→List V→Hp→VK→Prop:=fun x xs H Q=>∃ z y:Str,x = .str z∧xs=[.str y]∧Q (.int (Txt.find z y)) H
theorem zRj:MtR X "str.find" zQo:=by
 intro pins s σ H x xs v us Q I rx rv h
 obtain ⟨z,y,rfl,rfl,q⟩:=h
 obtain ⟨t,rfl⟩:=rx
 obtain ⟨u,rfl,ru⟩:=rv.one
 obtain ⟨t',rfl⟩:=ru
 exact SC.find ⟨.int _,H,I.tok _,⟨_,rfl⟩,q⟩
theorem zPs {z y:Str} (q:Q (.int (Txt.find z y)) H):zQo (.str z) [.str y] H Q:=⟨z,y,rfl,rfl,q⟩
theorem zXR {z:Str} {R:Prop} (q:R):tyV K "str" (.str z) H∧R:=⟨rfl,q⟩
end
def Its (x:Str):It:=⟨fun i _=>i < (Lt x).length,fun i H v H'=>H'=H ∧ ∃ c,(Lt x)[i]? = some c∧v = .str (T [c]),fun i _=>i=(Lt x).length⟩
theorem zRR {P:Program} {w:World} {K:PySem.W.Frag} {tg:Expr} (x:Str) (t:Tok) (it:Addr) (ty:String) (hty:ty = "str_ascii_iterator" ∨ ty = "str_iterator"):Turn P w K tg (Its x) [it] it (fun i h=>h.IsStrIter it ty x t i) where
 mem:=by simp
 obj:=fun i h st b hb=>by
  have e:b=it:=by simpa using hb
  subst e
  obtain ⟨o,e,c,d⟩:=st
  exact ⟨o,e,fun v z=>by rw [d] at z;cases z⟩
 keep:=fun i h h' st k=>by
  obtain ⟨o,e,c,d⟩:=st
  exact ⟨o,k it (by simp) o e,c,d⟩
 item:=by
  intro X hP hw hK hc i pins s σ H E I hf st hg
  subst hP hw hK
  obtain ⟨f0,f1,f2,f3,f4,f5⟩:=hf it (by simp)
  have W:Walks X.prog X.w X.A it [it] [it] x.cps.size (SignAt x) (fun i h=>h.IsStrIter it ty x t i):=by
   rcases hty with rfl | rfl
   ·exact Walks.strAscii (I.ok.hd hc) it x t
   ·exact Walks.strWide (I.ok.hd hc) it x t
  refine W.item i s _ _ hg st fun v h' tk hv st' kk=>?_
  obtain ⟨c,u,hcu,rfl⟩:=hv
  have I1:Inv X pins σ H { s with heap:=h',toks:=tk }:=I.turned (fun b o hb e=>kk b o (by simpa using hb) e) f0 f1 f3 f4 f5
  obtain ⟨o,e,c1,d⟩:=id st'
  have hn:["enumerate", "zip", "dict_itemiterator", "dict_reverseitemiterator", "odict_iterator", "itertools.zip_longest", "itertools.pairwise"].contains ty=false:=by rcases hty with rfl | rfl <;> decide
  exact ⟨_,rfl,zRE (s:={ s with heap:=h',toks:=tk }) e c1 d hn ⟨.str (T [c]),H,I1,⟨u,rfl⟩,⟨rfl,c,by simpa [Lt] using hcu,rfl⟩,st',fun b hb=>(hf b hb).1⟩⟩
 done:=by
  intro X hP hw hK hc i pins s σ H E I hf st hg
  subst hP hw hK
  obtain ⟨f0,f1,f2,f3,f4,f5⟩:=hf it (by simp)
  have W:Walks X.prog X.w X.A it [it] [it] x.cps.size (SignAt x) (fun i h=>h.IsStrIter it ty x t i):=by
   rcases hty with rfl | rfl
   ·exact Walks.strAscii (I.ok.hd hc) it x t
   ·exact Walks.strWide (I.ok.hd hc) it x t
  have hi:i=x.cps.size:=hg
  subst hi
  exact W.done s _ _ st fun h' tk kk=>⟨rfl,I.turned (fun b o hb e=>kk b o (by simpa using hb) e) f0 f1 f3 f4 f5⟩
 self:=fun _ _ _ _ _ st h=>by
  rcases hty with rfl | rfl
  ·exact wpAny_pyIter_striter_ascii st h
  ·exact wpAny_pyIter_striter_wide st h
section
variable {X : Cx} {tg : Expr}
def iStr (tl:TE):TI:=fun σ H R=>tl σ H fun x H1=>∃ z:Str,x = .str z∧R (Its z) H1
theorem zQS {l:Expr} {tl:TE} (hl:PE X l tl):PI X tg l (iStr tl):=by
 intro pins s σ H R I h
 refine thn (hl pins s σ H _ I h) fun v s1 ⟨x,H1,I1,r1,q1⟩=>?_
 obtain ⟨z,e,q⟩:=q1
 subst e
 obtain ⟨t,rfl⟩:=r1
 have hty:strIterType z = "str_ascii_iterator" ∨ strIterType z = "str_iterator" := by unfold strIterType;split <;> simp
 refine wpAny_pyIter_strU ?_
 refine ⟨s1.heap.objs.size,[s1.heap.objs.size],_,_,H1,rfl,I1.kept (t':=s1.toks) fun b o e=>Heap.get?_push_of_some _ e,zRR z t _ _ hty,⟨_,Heap.get?_push_size _ rfl,rfl,rfl⟩,fun b hb=>?_,q⟩
 have e:b=s1.heap.objs.size:=by simpa using hb
 subst e
 exact I1.fpOk (Nat.le_refl _) (I1.hok.fresh (Nat.le_refl _))
end
section
variable {σ : St} {H : Hp} {Q : VK} {D : Ends} {K : W.Frag}
def zVr (g:TG) (tb:TS) (D:Ends) (σ:St) (x:V) (H:Hp):Prop:=∃ z:Str,x = .str z ∧ ∃ W:Nat→Nat→St→Hp→Prop,(∃ m,W 0 m σ H) ∧ ∀ i m σ H,W i m σ H →
 ((Its z).stop i H∧D.nx σ H)∨((Its z).go i H ∧ ∃ N:St→Hp→Prop,(∀ σ' H',N σ' H' → ∃ m',m' < m∧W (i+1) m' σ' H') ∧ ∀ x H',(Its z).yld i H x H'→g x σ H' fun σ2 H2=>tb { D with nx:=N,ct:=N,bk:=D.nx } σ2 H2)
theorem zWc {tl:TE} {g:TG} {tb:TS} (h:tl σ H (zVr g tb D σ)):tFor (iStr tl) g tb D σ H:=h
theorem zTy {g:TG} {tb:TS} {a:List Nat} (Pv:Nat→St→Hp→Prop) (h0:Pv 0 σ H)
  (hs : ∀ i c σ H,a[i]? = some c→Pv i σ H→g (.str (T [c])) σ H fun σ2 H2=>tb { D with nx:=Pv (i+1),ct:=Pv (i+1),bk:=D.nx } σ2 H2) (hd : ∀ σ H,Pv a.length σ H→D.nx σ H):zVr g tb D σ (.str (T a)) H:=by
 refine ⟨T a,rfl,fun i m σ H=>i+m=a.length∧Pv i σ H,⟨a.length,by omega,h0⟩,?_⟩
 rintro i m σ H ⟨hm,hp⟩
 rcases Nat.lt_or_ge i a.length with h | h
 ·refine .inr ⟨h,Pv (i+1),fun σ' H' hp'=>⟨m - 1,by omega,by omega,hp'⟩,?_⟩
  rintro x H' ⟨rfl,c,hc,rfl⟩
  exact hs i c σ H' hc hp
 ·have e:i=a.length:=by omega
  subst e
  exact .inl ⟨rfl,hd σ H hp⟩
end
def fv (c:Nat):Int:=if 48≤c∧c≤57 then (c:Int) - 48 else if 97≤c∧c≤102 then (c:Int) - 87 else -1
theorem zRb : ∀ c ∈ List.range 127,Txt.find "0123456789abcdef" (T [c])=fv c:=by decide +kernel
theorem zUk {c:Nat} (h:c < 127):Txt.find "0123456789abcdef" (T [c])=fv c:=zRb c (List.mem_range.mpr h)
def fc (d:Nat):Nat:=(Lt "0123456789abcdef").getD d 0
theorem zUs : ∀ d ∈ List.range 16,fc d < 127∧fv (fc d)=d∧(fc d=48→d=0):=by decide +kernel
theorem zRO {d:Nat} (h:d < 16):fc d < 127∧fv (fc d)=d∧(fc d=48→d=0):=zUs d (List.mem_range.mpr h)
def val (b:Int) (l:List Nat):Int:=l.foldl (fun n c=>n*b+fv c) 0
theorem zQm (b:Int) (l:List Nat) (c:Nat):val b (l++[c])=val b l*b+fv c:=by unfold val;rw [List.foldl_append];rfl
theorem zJw (b : Int) (l : List Nat) : ∀ m : Nat, val b (List.replicate m 48 ++ l) = val b l
  | 0 => by simp
  | m + 1 => by
    have ih := zJw b l m
    unfold val at ih ⊢
    rw [List.replicate_succ, List.cons_append, List.foldl_cons]
    have : (0 : Int) * b + fv 48 = 0 := by rw [Int.zero_mul]; decide
    rw [this]; exact ih
def FigB (b:Int) (l:List Nat):Prop:=∀ c ∈ l,c < 127∧0≤fv c∧fv c < b
theorem FigB.mono {b b':Int} {l:List Nat} (h:FigB b l) (hb:b≤b'):FigB b' l:=fun c hc=>⟨(h c hc).1,(h c hc).2.1,by have:=(h c hc).2.2;omega⟩
theorem FigB.app {b:Int} {l m:List Nat} (h:FigB b l) (h':FigB b m):FigB b (l++m):=fun c hc=>(List.mem_append.mp hc).elim (h c) (h' c)
theorem FigB.noughts {b:Int} (hb:2≤b) (m:Nat):FigB b (List.replicate m 48):=fun c hc=>by
 rw [List.eq_of_mem_replicate hc];exact ⟨by decide,by decide,by show (0:Int) < b;omega⟩
theorem FigB.one {b d:Nat} (hb:b≤16) (h:d < b):FigB b [fc d]:=fun c hc=>by
 rw [List.mem_singleton.mp hc]
 have:=zRO (d:=d) (by omega)
 exact ⟨this.1,by omega,by omega⟩
def figs (b n:Nat):List Nat:=if h:n < b∨b < 2 then [fc n] else figs b (n / b)++[fc (n % b)]
termination_by n
decreasing_by exact Nat.div_lt_self (by omega) (by omega)
theorem zDQ {b n:Nat} (h:n < b):figs b n=[fc n]:=by rw [figs];simp [h]
theorem zHb {b n:Nat} (h2:2≤b) (h:b≤n):figs b n=figs b (n / b)++[fc (n % b)]:=by rw [figs];simp [show ¬ n < b by omega,show ¬ b < 2 by omega]
theorem zMI {b : Nat} (h2 : 2 ≤ b) (h16 : b ≤ 16) : ∀ (m n : Nat), n ≤ m → FigB b (figs b n) ∧ val b (figs b n) = n ∧ figs b n ≠ [] ∧ ((figs b n).getD 0 0 = 48 → n = 0) := by
  intro m
  induction m with
  | zero =>
    intro n hn
    rw [zDQ (by omega)]
    have e := zRO (d := n) (by omega)
    exact ⟨FigB.one h16 (by omega), by unfold val; simp [e.2.1], by simp, fun _ => by omega⟩
  | succ m ih =>
    intro n hn
    rcases Nat.lt_or_ge n b with h | h
    · rw [zDQ h]
      have e := zRO (d := n) (by omega)
      exact ⟨FigB.one h16 (by omega), by unfold val; simp [e.2.1], by simp, fun q => e.2.2 (by simpa using q)⟩
    · have hd : n / b < n := Nat.div_lt_self (by omega) (by omega)
      obtain ⟨i1, i2, i3, i4⟩ := ih (n / b) (by omega)
      have hm := Nat.mod_lt n (show b > 0 by omega)
      rw [zHb h2 h]
      refine ⟨i1.app (FigB.one h16 hm), ?_, by simp, fun q => ?_⟩
      · rw [zQm, i2, (zRO (d := n % b) (by omega)).2.1]
        have := Nat.div_add_mod n b
        rw [Nat.mul_comm] at this
        omega
      · rw [zID (List.length_pos_iff.mpr i3)] at q
        have := i4 q
        have p : 0 < n / b := Nat.div_pos h (by omega)
        omega
theorem zK0 {b : Nat} (h2 : 2 ≤ b) : ∀ (k n : Nat), n < b ^ (k + 1) → (figs b n).length ≤ k + 1
  | 0, n, h => by rw [Nat.pow_one] at h; rw [zDQ h]; simp
  | k + 1, n, h => by
    rcases Nat.lt_or_ge n b with h' | h'
    · rw [zDQ h']; simp
    · rw [zHb h2 h', List.length_append]
      have := zK0 h2 k (n / b) (Nat.div_lt_of_lt_mul (by rw [Nat.pow_succ, Nat.mul_comm] at h; exact h))
      simp; omega
theorem zJO {b n:Nat} (h2:2≤b) (h:n < 1766847064778384329583297500742918515827483896875618958121606201292619776):(figs b n).length≤240:=by
 refine zK0 h2 239 n (Nat.lt_of_lt_of_le h ?_)
 have e:(1766847064778384329583297500742918515827483896875618958121606201292619776:Nat)=2 ^ 240:=by decide +kernel
 rw [e];exact Nat.pow_le_pow_left h2 240
theorem zJ4 {b m:Nat} (h2:2≤b) (l:List Nat):figs b m++l=if m / b=0 then fc (m % b)::l else figs b (m / b)++fc (m % b)::l:=by
 rcases Nat.lt_or_ge m b with h' | h'
 ·rw [if_pos (Nat.div_eq_of_lt h'),zDQ h',Nat.mod_eq_of_lt h'];rfl
 ·have p:0 < m / b:=Nat.div_pos h' (by omega)
  rw [if_neg (by omega),zHb h2 h',List.append_assoc];rfl
theorem zTU {H:Hp} {Q:VK} {xs:List V} (hz:xs.length≤sizeLine) (h : ∀ p,H p=none→Q (.ref p) (upd H p (.lst xs))):kLst Q xs H:=⟨hz,h⟩
theorem zAq {H H':Hp} {l:Addr} {o:HO} (g:Same H H') (n:H l=none):Same H (upd H' l o):=fun b u q=>by rw [zBV (zCH q n)];exact g b u q
theorem zWQ {K:W.Frag} {σ:St} {H:Hp} {Q:VK} {T:String} {r:V→List V→Hp→VK→Prop} {to:TE} (h:to σ H fun x H1=>tyV K T x H1∧r x [] H1 Q):tBM0 K T r to σ H Q:=h
theorem zPb {H:Hp} {Q:VK} {l:Addr} {xs:List V} (h:H l=some (.lst xs)) (q:Q .non (upd H l (.lst xs.reverse))):zN4 (.ref l) [] H Q:=⟨l,xs,rfl,rfl,h,q⟩
def jn (m:List Nat):List (List Nat)→List Nat
 | []=>[]
 | x::xs=>x++(xs.map (m ++ ·)).flatten
theorem zL7 (m : Str) : ∀ (xs : List (List Nat)) (a : Array Nat), ((xs.map T).foldl (fun acc p => acc ++ m.cps ++ p.cps) a).toList = a.toList ++ (xs.map (Lt m ++ ·)).flatten
  | [], a => by simp
  | x :: xs, a => by
    rw [List.map_cons, List.foldl_cons, zL7 m xs, List.map_cons, List.flatten_cons]
    simp [T]
theorem zWV (m : Str) (xs : List (List Nat)) : Txt.join m (xs.map T) = T (jn (Lt m) xs) := by
  refine zKl ?_
  rw [Lt_T]
  unfold Txt.join Builtin.Str.glued
  cases xs with
  | nil => rfl
  | cons x xs =>
    show (List.foldl (fun acc p => acc ++ m.cps ++ p.cps) (T x).cps (xs.map T)).toList = _
    rw [zL7]; rfl
theorem zUE (m:List Nat) {xs:List (List Nat)} (h:xs≠[]) (y:List Nat):jn m (xs++[y])=jn m xs++(m++y):=by
 cases xs with
 | nil=>exact absurd rfl h
 | cons x xs=>unfold jn;simp
theorem zPe (xs:List (List Nat)):jn [] xs=xs.flatten:=by
 cases xs with
 | nil=>rfl
 | cons x xs=>unfold jn;simp
theorem zVJ {m : Str} {xs : List (List Nat)} (h : xs.flatten.length + xs.length * (Lt m).length ≤ 16777216) : JoinOk m (xs.map T) = true := by
  have e : ∀ (xs : List (List Nat)) (n : Nat), (xs.map T).foldl (fun x1 x2 => x1 + x2.length + m.length) n = n + xs.flatten.length + xs.length * (Lt m).length := by
    intro xs
    induction xs with
    | nil => intro n; simp
    | cons x xs ih =>
      intro n
      rw [List.map_cons, List.foldl_cons, ih, List.flatten_cons, List.length_append, List.length_cons, Nat.add_mul]
      have e1 : (T x).length = x.length := rfl
      have e2 : m.length = (Lt m).length := rfl
      rw [e1, e2]; omega
  unfold JoinOk Builtin.Str.tooLong
  rw [List.foldl_toArray, e, decide_eq_false (by show ¬ 0 + xs.flatten.length + xs.length * (Lt m).length > 16777216; omega)]
  rfl
def zSe (K:W.Frag):V→List V→Hp→VK→Prop:=fun x vs H Q=>∃ (m:Str) (p:Addr) (xs:List (List Nat)),x = .str m∧vs=[.ref p]∧H p=some (.lst (xs.map fun l=>V.str (T l)))∧xs.flatten.length+xs.length*(Lt m).length≤16777216∧Q (.str (T (jn (Lt m) xs))) H
theorem zLh : ∀ {xs : List (List Nat)} {us : List Value}, Vals (xs.map fun l => V.str (T l)) us → ∃ ts : List (Str × Tok), us = strValues ts ∧ ts.map (fun x => x.1) = xs.map T
  | [], _, .nil => ⟨[], rfl, rfl⟩
  | x :: xs, _, .cons r t => by
    obtain ⟨ts, rfl, e⟩ := zLh t
    obtain ⟨u, rfl⟩ := r
    exact ⟨(T x, u) :: ts, rfl, by rw [List.map_cons, List.map_cons, e]⟩
theorem zJM {X:Cx}:MtR X "str.join" (zSe X.K):=by
 intro pins s σ H x vs v us Q I rx rv h
 obtain ⟨m,p,xs,rfl,rfl,hH,hz,q⟩:=h
 obtain ⟨t,rfl⟩:=rx
 obtain ⟨u,rfl,ru⟩:=rv.one
 cases ru
 obtain ⟨its,r,pl,_⟩:=I.list (SqL.of hH)
 obtain ⟨ts,rfl,e⟩:=zLh r
 exact SC.join pl.isList e (zVJ hz) fun t' k=>⟨.str _,H,I.tok _,⟨t',rfl⟩,by rw [zWV];exact q⟩
theorem zKu {K:W.Frag} {H:Hp} {Q:VK} {m:Str} {p:Addr} {xs:List (List Nat)} (h:H p=some (.lst (xs.map fun l=>V.str (T l)))) (hz:xs.flatten.length+xs.length*(Lt m).length≤16777216) (q:Q (.str (T (jn (Lt m) xs))) H):zSe K (.str m) [.ref p] H Q:=⟨m,p,xs,rfl,rfl,h,hz,q⟩
def pcs (a:List Nat) (z g e:Nat):List (List Nat):=if h:e=0∨z=0 then [] else pcs a z g (e - z - g)++[(a.take e).drop (e - z)]
termination_by e
decreasing_by omega
theorem zE5 (a:List Nat) (z g:Nat):pcs a z g 0=[]:=by rw [pcs];simp
theorem zJn {a:List Nat} {z g e:Nat} (hz:0 < z) (h:0 < e):pcs a z g e=pcs a z g (e - z - g)++[(a.take e).drop (e - z)]:=by
 rw [pcs];rw [dif_neg (by omega)]
theorem zOB {a : List Nat} {z g : Nat} (hz : 0 < z) : ∀ (m e : Nat), e ≤ m → (pcs a z g e).flatten.length ≤ e ∧ (pcs a z g e).length ≤ e
  | 0, e, h => by rw [show e = 0 by omega, zE5]; simp
  | m + 1, e, h => by
    rcases Nat.eq_zero_or_pos e with p | p
    · rw [p, zE5]; simp
    · obtain ⟨i1, i2⟩ := zOB (a := a) (g := g) hz m (e - z - g) (by omega)
      rw [zJn hz p]
      simp only [List.flatten_append, List.length_append, List.flatten_cons, List.flatten_nil, List.append_nil, List.length_drop, List.length_take, List.length_cons, List.length_nil]
      omega
def RJ (z m:Nat) (b:List Nat):List Nat:=if h:b.length≤z∨z=0 then b else b.take z++m::RJ z m (b.drop z)
termination_by b.length
decreasing_by rw [List.length_drop];omega
theorem zFQ {z m:Nat} {b:List Nat} (h:b.length≤z):RJ z m b=b:=by rw [RJ];simp [h]
theorem zKA {m:Nat} {b:List Nat}:RJ 0 m b=b:=by rw [RJ];simp
theorem zKH {z m:Nat} {b:List Nat} (hz:0 < z) (h:z < b.length):RJ z m b=b.take z++m::RJ z m (b.drop z):=by
 rw [RJ];rw [dif_neg (by omega)]
theorem zSf {z m : Nat} : ∀ (k : Nat) (b : List Nat), b.length ≤ k → b.length ≤ (RJ z m b).length ∧ (RJ z m b).length ≤ 2 * b.length
  | 0, b, h => by rw [zFQ (by omega)]; omega
  | k + 1, b, h => by
    rcases Nat.eq_zero_or_pos z with p | p
    · subst p; rw [zKA]; omega
    · rcases Nat.lt_or_ge z b.length with q | q
      · have ih := zSf (z := z) (m := m) k (b.drop z) (by rw [List.length_drop]; omega)
        rw [List.length_drop] at ih
        rw [zKH p q, List.length_append, List.length_take, List.length_cons]
        omega
      · rw [zFQ q]; omega
theorem zQl {z m x : Nat} (hz : 0 < z) : ∀ (k : Nat) (c : List Nat), c.length ≤ k → RJ z m (c ++ [x]) = RJ z m c ++ ((if 0 < c.length ∧ c.length % z = 0 then [m] else []) ++ [x])
  | 0, c, h => by
    have e : c = [] := List.eq_nil_of_length_eq_zero (by omega)
    subst e
    rw [zFQ (by simp; omega), zFQ (by simp)]; simp
  | k + 1, c, h => by
    rcases Nat.lt_trichotomy c.length z with p | p | p
    · rw [zFQ (by simp; omega), zFQ (by omega), if_neg (by
        intro q; rw [Nat.mod_eq_of_lt p] at q; omega)]; simp
    · rw [zKH hz (by simp; omega), zFQ (b := c) (by omega), if_pos ⟨by omega, by rw [p]; exact Nat.mod_self z⟩]
      rw [List.take_append_of_le_length (by omega), List.take_of_length_le (by omega), List.drop_append_of_le_length (by omega), List.drop_of_length_le (by omega), zFQ (by simp; omega)]
      simp
    · rw [zKH hz (by simp; omega), zKH (b := c) hz p]
      rw [List.take_append_of_le_length (by omega), List.drop_append_of_le_length (by omega), zQl hz k (c.drop z) (by rw [List.length_drop]; omega), List.length_drop]
      have e : (c.length - z) % z = c.length % z := (Nat.mod_eq_sub_mod (by omega)).symm
      rw [e, List.append_assoc, List.cons_append]
      have e2 : (0 < c.length - z ∧ c.length % z = 0) = (0 < c.length ∧ c.length % z = 0) := propext ⟨fun q => ⟨by omega, q.2⟩, fun q => ⟨by omega, q.2⟩⟩
      simp only [e2]
theorem zSc {a : List Nat} {z m : Nat} (hz : 0 < z) : ∀ (k e : Nat), e ≤ k → e ≤ a.length → (jn [m] (pcs a z 0 e)).reverse = RJ z m (a.take e).reverse
  | 0, e, h, _ => by rw [show e = 0 by omega, zE5, zFQ (by simp)]; simp [jn]
  | k + 1, e, h, ha => by
    rcases Nat.eq_zero_or_pos e with p | p
    · rw [p, zE5, zFQ (by simp)]; simp [jn]
    · rw [zJn hz p, Nat.sub_zero]
      have le : (a.take e).length = e := by rw [List.length_take]; omega
      rcases Nat.lt_or_ge z e with q | q
      · have ih := zSc (a := a) (m := m) hz k (e - z) (by omega) (by omega)
        have ne : pcs a z 0 (e - z) ≠ [] := by rw [zJn hz (by omega)]; simp
        rw [zUE _ ne, List.reverse_append, List.reverse_append, ih, zKH (b := (a.take e).reverse) hz (by rw [List.length_reverse]; omega), List.take_reverse, List.drop_reverse, le]
        rw [List.take_take, Nat.min_eq_left (show e - z ≤ e by omega)]
        simp
      · rw [show e - z = 0 by omega, zE5, zFQ (by rw [List.length_reverse]; omega)]
        simp [jn]
def gr (z m:Nat) (a:List Nat):List Nat:=(RJ z m a.reverse).reverse
theorem zXD {a:List Nat} {z m:Nat} (hz:0 < z):jn [m] (pcs a z 0 a.length)=gr z m a:=by
 have:=zSc (m:=m) hz a.length a.length (Nat.le_refl _) (Nat.le_refl _)
 rw [List.take_length] at this
 unfold gr
 rw [← this,List.reverse_reverse]
theorem zMd {a:List Nat} {z m:Nat}:a.length≤(gr z m a).length∧(gr z m a).length≤2*a.length:=by
 have:=zSf (z:=z) (m:=m) a.reverse.length a.reverse (Nat.le_refl _)
 unfold gr;rw [List.length_reverse] at this ⊢;exact this
def UJ (z:Nat) (c:List Nat):List Nat:=if h:c.length=0∨z=0 then [] else c.take z++UJ z (c.drop (z+1))
termination_by c.length
decreasing_by rw [List.length_drop];omega
theorem zFS {z:Nat}:UJ z []=[]:=by rw [UJ];simp
theorem zHR {z:Nat} {c:List Nat} (hz:0 < z) (h:0 < c.length):UJ z c=c.take z++UJ z (c.drop (z+1)):=by rw [UJ];rw [dif_neg (by omega)]
theorem zWX {z m : Nat} (hz : 0 < z) : ∀ (k : Nat) (b : List Nat), b.length ≤ k → UJ z (RJ z m b) = b
  | 0, b, h => by rw [List.eq_nil_of_length_eq_zero (show b.length = 0 by omega), zFQ (by simp), zFS]
  | k + 1, b, h => by
    rcases Nat.eq_zero_or_pos b.length with p | p
    · rw [List.eq_nil_of_length_eq_zero p, zFQ (by simp), zFS]
    · rcases Nat.lt_or_ge z b.length with q | q
      · rw [zKH hz q, zHR hz (by rw [List.length_append, List.length_cons]; omega)]
        have l1 : (b.take z).length = z := by rw [List.length_take]; omega
        rw [List.take_append_of_le_length (by omega), List.take_of_length_le (by omega), List.drop_append, l1, List.drop_of_length_le (by omega)]
        rw [show z + 1 - z = 1 by omega]
        show b.take z ++ UJ z (RJ z m (b.drop z)) = b
        rw [zWX hz k (b.drop z) (by rw [List.length_drop]; omega), List.take_append_drop]
      · rw [zFQ q, zHR hz p, List.take_of_length_le q, List.drop_of_length_le (by omega), zFS, List.append_nil]
theorem zSh {a : List Nat} {z : Nat} (hz : 0 < z) : ∀ (k e : Nat), e ≤ k → e ≤ a.length → (pcs a z 1 e).flatten.reverse = UJ z (a.take e).reverse
  | 0, e, h, _ => by rw [show e = 0 by omega, zE5]; simp [zFS]
  | k + 1, e, h, ha => by
    rcases Nat.eq_zero_or_pos e with p | p
    · rw [p, zE5]; simp [zFS]
    · have le : (a.take e).length = e := by rw [List.length_take]; omega
      have ih := zSh (a := a) hz k (e - z - 1) (by omega) (by omega)
      rw [zJn hz p, List.flatten_append, List.reverse_append, ih, zHR (c := (a.take e).reverse) hz (by rw [List.length_reverse]; omega), List.take_reverse, List.drop_reverse, le, List.take_take, Nat.min_eq_left (show e - (z + 1) ≤ e by omega)]
      simp
      rw [show e - (z + 1) = e - z - 1 by omega]
def ug (z:Nat) (a:List Nat):List Nat:=if z=0 then a else (UJ z a.reverse).reverse
theorem zV1 {a:List Nat} {z:Nat} (hz:0 < z):(pcs a z 1 a.length).flatten=ug z a:=by
 have:=zSh hz a.length a.length (Nat.le_refl _) (Nat.le_refl _)
 rw [List.take_length] at this
 unfold ug
 rw [if_neg (by omega),← this,List.reverse_reverse]
theorem zR6 (z m:Nat) (a:List Nat):ug z (gr z m a)=a:=by
 unfold ug gr
 split
 ·rename_i h;subst h;rw [zKA,List.reverse_reverse]
 ·rename_i h
  rw [List.reverse_reverse,zWX (by omega) a.reverse.length a.reverse (Nat.le_refl _),List.reverse_reverse]
theorem zIe {m:Nat} {a:List Nat}:gr 0 m a=a:=by unfold gr;rw [zKA,List.reverse_reverse]
theorem zMp {z m k:Nat} {a:List Nat} (hk:k < a.length):gr z m (a.drop (a.length - (k+1)))=a.getD (a.length - 1 - k) 0::((if 0 < z∧0 < k∧k % z=0 then [m] else [])++gr z m (a.drop (a.length - k))):=by
 have e:a.drop (a.length - (k+1))=a.getD (a.length - 1 - k) 0::a.drop (a.length - k):=by
  rw [List.drop_eq_getElem_cons (by omega),List.getD_eq_getElem?_getD,List.getElem?_eq_getElem (by omega)]
  congr 2 <;> omega
 have lk:(a.drop (a.length - k)).length=k:=by rw [List.length_drop];omega
 rcases Nat.eq_zero_or_pos z with p | p
 ·subst p;rw [zIe,zIe,e,if_neg (by omega)];rfl
 ·rw [e]
  unfold gr
  rw [List.reverse_cons,zQl p _ _ (Nat.le_refl _),List.length_reverse,lk]
  by_cases q:0 < k∧k % z=0
  ·rw [if_pos q,if_pos ⟨p,q⟩];simp
  ·rw [if_neg q,if_neg (fun h=>q h.2)];simp
theorem zVH {K:W.Frag} {H:Hp} {Q:VK} {p:Addr} {ts:List (List Nat)} {i:Int} (h:SqL K H p (ts.map fun l=>V.str (T l))) (h0:0≤i) (h1:i < ts.length) (q:Q (.str (T (ts.getD i.toNat []))) H):rIxL K (.ref p) (.int i) H Q:=by
 refine zLK h h0 (by rw [List.length_map];exact h1) fun x hx=>?_
 have h2:i.toNat < ts.length:=by omega
 rw [List.getElem?_map,List.getElem?_eq_getElem h2] at hx
 cases hx
 rw [List.getD_eq_getElem?_getD,List.getElem?_eq_getElem h2] at q
 exact q
section
variable {X : Cx} {H : Hp} {Q : VK} {K : W.Frag}
inductive NT (H:Hp):V→Prop where
 | int (i:Int):NT H (.int i)
 | non:NT H .non
 | bl (b:Bool):NT H (.bl b)
 | lst {p:Addr} {xs:List V} (e:H p=some (.lst xs)):NT H (.ref p)
 | tup {p:Addr} {xs:List V} (e:H p=some (.tup xs)):NT H (.ref p)
 | dct {p:Addr} (e:H p=some (dctO p)):NT H (.ref p)
theorem NT.same {H H':Hp} {v:V} (h:NT H v) (g:Same H H'):NT H' v:=by
 cases h with
 | int i=>exact .int i
 | non=>exact .non
 | bl b=>exact .bl b
 | lst e=>exact .lst (g _ _ e)
 | tup e=>exact .tup (g _ _ e)
 | dct e=>exact .dct (g _ _ e)
def Asc (l:List Nat):Prop:=∀ c ∈ l,c < 127
theorem Asc.nil:Asc []:=fun _ h=>nomatch h
theorem Asc.app {l m:List Nat} (h:Asc l) (h':Asc m):Asc (l++m):=fun c hc=>(List.mem_append.mp hc).elim (h c) (h' c)
theorem Asc.one {c:Nat} (h:c < 127):Asc [c]:=fun d hd=>by rw [List.mem_singleton.mp hd];exact h
theorem Asc.take {l:List Nat} (h:Asc l) (n:Nat):Asc (l.take n):=fun c hc=>h c (List.mem_of_mem_take hc)
theorem Asc.drop {l:List Nat} (h:Asc l) (n:Nat):Asc (l.drop n):=fun c hc=>h c (List.mem_of_mem_drop hc)
theorem Asc.rep {l:List Nat} (h:Asc l) (n:Nat):Asc (List.replicate n l).flatten:=fun c hc=>by
 obtain ⟨m,hm,hc⟩:=List.mem_flatten.mp hc
 rw [List.eq_of_mem_replicate hm] at hc
 exact h c hc
theorem FigB.asc {b:Int} {l:List Nat} (h:FigB b l):Asc l:=fun c hc=>(h c hc).1
theorem FigB.snoc {b:Int} {l:List Nat} {i c:Nat} (h:FigB b (l.take i)) (hi:l[i]? = some c) (h1:c < 127) (h2:0≤fv c) (h3:fv c < b):FigB b (l.take (i+1)):=by
 rw [List.take_succ,hi]
 refine h.app fun d hd=>?_
 rw [List.mem_singleton.mp hd];exact ⟨h1,h2,h3⟩
end
theorem zBt {X:Cx} {x:Str} {l:List Nat} {j:Nat} {pos:Pos} (e:x=T l):PE X (.Constant (.str x) j pos) (tC (.str (T l))):=by
 rw [← e];exact zAe
theorem zQx {z x : Nat} (hz : 0 < z) : ∀ (k : Nat) (c : List Nat), c.length ≤ k → UJ z (c ++ [x]) = UJ z c ++ (if c.length % (z + 1) = z then [] else [x])
  | 0, c, h => by
    have e : c = [] := List.eq_nil_of_length_eq_zero (by omega)
    subst e
    rw [zHR hz (by simp), zFS, if_neg (by simp; omega), List.nil_append, List.take_of_length_le (by simp; omega), List.drop_of_length_le (by simp), zFS]; simp
  | k + 1, c, h => by
    rcases Nat.eq_zero_or_pos c.length with p0 | p0
    · have e : c = [] := List.eq_nil_of_length_eq_zero p0
      subst e
      rw [zHR hz (by simp), zFS, if_neg (by simp; omega), List.nil_append, List.take_of_length_le (by simp; omega), List.drop_of_length_le (by simp), zFS]; simp
    rw [zHR hz (by simp), zHR hz p0]
    rcases Nat.lt_trichotomy c.length z with p | p | p
    · rw [List.take_of_length_le (by simp; omega), List.take_of_length_le (by omega), List.drop_of_length_le (by simp; omega), List.drop_of_length_le (by omega), zFS, if_neg (by rw [Nat.mod_eq_of_lt (by omega)]; omega)]; simp
    · rw [List.take_append_of_le_length (by omega), List.drop_of_length_le (by simp; omega), List.drop_of_length_le (by omega), zFS, if_pos (by rw [Nat.mod_eq_of_lt (by omega)]; exact p)]; simp
    · rw [List.take_append_of_le_length (by omega), List.drop_append_of_le_length (by omega), zQx hz k (c.drop (z + 1)) (by rw [List.length_drop]; omega), List.length_drop, ← Nat.mod_eq_sub_mod (by omega), List.append_assoc]
theorem zJ1 {z m : Nat} (hz : 0 < z) : ∀ (k : Nat) (b : List Nat), b.length ≤ k → 1 ≤ b.length → (RJ z m b).length = b.length + (b.length - 1) / z
  | 0, b, h, h1 => by omega
  | k + 1, b, h, h1 => by
    rcases Nat.lt_or_ge z b.length with q | q
    · have ih := zJ1 (m := m) hz k (b.drop z) (by rw [List.length_drop]; omega) (by rw [List.length_drop]; omega)
      rw [List.length_drop] at ih
      rw [zKH hz q, List.length_append, List.length_take, List.length_cons, ih]
      have e : (b.length - 1) / z = (b.length - z - 1) / z + 1 := by
        rw [Nat.div_eq_sub_div hz (by omega), show b.length - 1 - z = b.length - z - 1 by omega]
      omega
    · rw [zFQ q, Nat.div_eq_of_lt (by omega)]; omega
theorem zKW {z:Nat} {c:List Nat} (hz:0 < z) (h:0 < c.length):0 < (UJ z c).length:=by
 rw [zHR hz h,List.length_append,List.length_take];omega
theorem zVA {z m : Nat} (hz : 0 < z) : ∀ (k : Nat) (c : List Nat), c.length ≤ k → c.length % (z + 1) ≠ 0 → (∀ j, j < c.length → j % (z + 1) = z → c.getD j 0 = m) → RJ z m (UJ z c) = c
  | 0, c, h, h0, _ => by rw [show c.length = 0 by omega] at h0; simp at h0
  | k + 1, c, h, h0, hm => by
    have p0 : 0 < c.length := by
      rcases Nat.eq_zero_or_pos c.length with p | p
      · rw [p] at h0; simp at h0
      · exact p
    rcases Nat.lt_trichotomy c.length (z + 1) with q | q | q
    · rw [zHR hz p0, List.take_of_length_le (by omega), List.drop_of_length_le (by omega), zFS, List.append_nil, zFQ (by omega)]
    · rw [q, Nat.mod_self] at h0; exact absurd rfl h0
    · have l1 : (c.take z).length = z := by rw [List.length_take]; omega
      have l2 : (c.drop (z + 1)).length = c.length - (z + 1) := List.length_drop ..
      have ih := zVA (m := m) hz k (c.drop (z + 1)) (by omega) (by rw [l2, ← Nat.mod_eq_sub_mod (by omega)]; exact h0) (fun j hj he => by
        have z1 := hm (z + 1 + j) (by omega) (by rw [Nat.add_mod_left]; exact he)
        rw [List.getD_eq_getElem?_getD] at z1 ⊢
        rw [List.getElem?_drop]; exact z1)
      have up := zKW (c := c.drop (z + 1)) hz (by omega)
      rw [zHR hz p0, zKH hz (by rw [List.length_append, l1]; omega), List.take_append_of_le_length (by omega), List.take_of_length_le (by omega), List.drop_append_of_le_length (by omega), List.drop_of_length_le (by omega), List.nil_append, ih]
      have cz := hm z (by omega) (Nat.mod_eq_of_lt (by omega))
      rw [List.getD_eq_getElem?_getD, List.getElem?_eq_getElem (by omega)] at cz
      have cz' : c[z] = m := cz
      rw [← cz', ← List.drop_eq_getElem_cons, List.take_append_drop]
def GG (z m:Nat) (t:List Nat):Prop:=1≤(ug z t).length∧(ug z t).length≤40∧gr z m (ug z t)=t
theorem GG.len {z m:Nat} {t:List Nat} (h:GG z m t):(ug z t).length+(if 0 < z then ((ug z t).length - 1) / z else 0)=t.length:=by
 have e:=congrArg List.length h.2.2
 rcases Nat.eq_zero_or_pos z with p | p
 ·subst p;rw [zIe] at e;simp;exact e
 ·unfold gr at e
  rw [List.length_reverse,zJ1 p _ _ (Nat.le_refl _) (by rw [List.length_reverse];exact h.1),List.length_reverse] at e
  rw [if_pos p];exact e
theorem zKn {l:List Nat} {j:Nat} (h:j < l.length):l.reverse.getD j 0=l.getD (l.length - 1 - j) 0:=by
 rw [List.getD_eq_getElem?_getD,List.getD_eq_getElem?_getD,List.getElem?_reverse h]
theorem zRi {z a b:Nat} (h1:1≤a) (h2:1≤b) (h:a+(a - 1) / z=b+(b - 1) / z):a=b:=by
 rcases Nat.lt_trichotomy a b with p | p | p
 ·have:=Nat.div_le_div_right (c:=z) (show a - 1≤b - 1 by omega);omega
 ·exact p
 ·have:=Nat.div_le_div_right (c:=z) (show b - 1≤a - 1 by omega);omega
theorem GG.of {z m many:Nat} {t:List Nat} (h1:1≤many) (h2:many≤40) (hl:many+(if 0 < z then (many - 1) / z else 0)=t.length) (hm:0 < z → ∀ k,k < t.length→(t.length - 1 - k) % (z+1)=z→t.getD k 0=m):GG z m t:=by
 rcases Nat.eq_zero_or_pos z with p | p
 ·subst p
  have e:ug 0 t=t:=rfl
  unfold GG;rw [e,zIe];simp at hl;exact ⟨by omega,by omega,rfl⟩
 ·rw [if_pos p] at hl
  have hn:t.length % (z+1)≠0:=by
   have d:=Nat.div_add_mod (many - 1) z
   have r:=Nat.mod_lt (many - 1) p
   generalize (many - 1) / z=q at *
   generalize (many - 1) % z=r' at *
   have e:t.length=r'+1+(z+1)*q:=by rw [Nat.add_mul,Nat.one_mul];omega
   rw [e,Nat.add_mul_mod_self_left,Nat.mod_eq_of_lt (by omega)];omega
  have rj:=zVA (m:=m) p _ t.reverse (Nat.le_refl _) (by rw [List.length_reverse];exact hn) (fun j hj he=>by
   rw [List.length_reverse] at hj
   rw [zKn hj]
   exact hm p _ (by omega) (by rw [show t.length - 1 - (t.length - 1 - j)=j by omega];exact he))
  have e:ug z t=(UJ z t.reverse).reverse:=by unfold ug;rw [if_neg (by omega)]
  have tp:0 < t.length:=Nat.lt_of_lt_of_le (show 0 < many by omega) (by rw [← hl];exact Nat.le_add_right _ _)
  have up:=zKW (c:=t.reverse) p (by rw [List.length_reverse];exact tp)
  have ln:=zJ1 (m:=m) p _ (UJ z t.reverse) (Nat.le_refl _) up
  rw [rj,List.length_reverse] at ln
  have em:=zRi (z:=z) (a:=(UJ z t.reverse).length) (b:=many) up h1 (by omega)
  refine ⟨by rw [e,List.length_reverse];omega,by rw [e,List.length_reverse];omega,?_⟩
  rw [e];unfold gr;rw [List.reverse_reverse,rj,List.reverse_reverse]
theorem zV5 {z:Nat} {t:List Nat}:(ug z t).length≤t.length:=by
 rcases Nat.eq_zero_or_pos z with p | p
 ·subst p;exact Nat.le_refl _
 ·rw [← zV1 p];exact (zOB p _ _ (Nat.le_refl _)).1
section
variable {σ : St} {H : Hp} {Q : VK} {D : Ends} {K : W.Frag}
def zS0 (g:TG) (tb:TS) (D:Ends) (σ:St) (vs:List V) (H:Hp):Prop:=∃ i j:Int,vs=[.int i,.int j]∧(-(2 ^ 62)≤i∧i < 2 ^ 62 ∧ -(2 ^ 62)≤j∧j < 2 ^ 62) ∧ ∃ W:Nat→Nat→St→Hp→Prop,(∃ m,W 0 m σ H) ∧ ∀ k m σ H,W k m σ H →
 ((Itr i (j - i).toNat).stop k H∧D.nx σ H)∨((Itr i (j - i).toNat).go k H ∧ ∃ N:St→Hp→Prop,(∀ σ' H',N σ' H' → ∃ m',m' < m∧W (k+1) m' σ' H') ∧ ∀ x H',(Itr i (j - i).toNat).yld k H x H'→g x σ H' fun σ2 H2=>tb { D with nx:=N,ct:=N,bk:=D.nx } σ2 H2)
theorem zT1 {ta:TA} {g:TG} {tb:TS} (h:ta σ H (zS0 g tb D σ)):tFor (zUo ta) g tb D σ H:=h
theorem zNy {g:TG} {tb:TS} {i j:Int} (hb : -(2 ^ 62)≤i∧i < 2 ^ 62 ∧ -(2 ^ 62)≤j∧j < 2 ^ 62) (Pv:Nat→St→Hp→Prop) (h0:Pv 0 σ H)
  (hs : ∀ k σ H,k < (j - i).toNat→Pv k σ H→g (.int (i+k)) σ H fun σ2 H2=>tb { D with nx:=Pv (k+1),ct:=Pv (k+1),bk:=D.nx } σ2 H2) (hd : ∀ σ H,Pv (j - i).toNat σ H→D.nx σ H):zS0 g tb D σ [.int i,.int j] H:=⟨i,j,rfl,hb,zMT Pv h0 hs hd⟩
end
def KD (w:World) (K:W.Frag) (d:Addr) (z:Str) (v:Addr):Prop:=∃ (es:Array DictEntry) (n:Nat),K.lookup d=some { cls:=.type "dict", data:=.dict es n }∧(∀ e,e ∈ es → ∃ k,Value.isStrOf k e.key=true∧e.hash=hashStr w k)∧findBy Value.isStrOf es z=some (.ref v)
def rIxD (w:World) (K:W.Frag):R2:=fun x y H Q=>∃ d z v,x = .ref d∧y = .str z∧KD w K d z v∧Q (.ref v) H
section
variable {X : Cx} {H : Hp} {Q : VK} {K : W.Frag} {w : World}
theorem zV0:IxR X (rIxD X.w X.K):=by
 intro value slice pins s σ H x y v u Q I rx ry h hs
 obtain ⟨d,z,p,rfl,rfl,⟨es,n,lk,ks,f⟩,q⟩:=h
 cases rx
 obtain ⟨t,rfl⟩:=ry
 have ho:=I.kIn d _ lk
 have fin : ∀ k,EP X pins σ Q (.ref p) { s with toks:=k }:=fun k=>⟨.ref p,H,I.tok _,rfl,q⟩
 exact subscriptTail_builtinR (x:=.ref p) ⟨_,ho,rfl⟩ slot_dict_getitem.lookup
  (wpAny_getItem_of (knd:=PySem.strKind X.prog X.w) (k:=z) (f:=fun k=>findBy Value.isStrOf es k) (Q:=fun r s'=>r = .ref p∧EP X pins σ Q r s') (by simp [PySem.strKind,Value.isStrOf]) ⟨_,es,n,ho,⟨rfl,rfl,rfl⟩,rfl,ks,fun k=>rfl⟩ f ⟨rfl,fin _⟩) hs
theorem zWg {d v:Addr} {z:Str} (h:KD w K d z v) (q:Q (.ref v) H):rIxD w K (.ref d) (.str z) H Q:=⟨d,z,v,rfl,rfl,h,q⟩
theorem zTO {p:Addr} {xs:List V} {i:Int} {v:V} (h:SqT K H p xs) (e:atI xs i=some v) (q:Q v H):rIxT K (.ref p) (.int i) H Q:=⟨p,xs,i,v,rfl,rfl,h,e,q⟩
theorem SqT.same {H H':Hp} {p:Addr} {xs:List V} (h:SqT K H p xs) (e:Same H H'):SqT K H' p xs:=by
 rcases h with h | h
 ·rcases h with h | ⟨o,h⟩
  ·exact .inl (.inl (e _ _ h))
  ·exact .inl (.inr ⟨o,e _ _ h⟩)
 ·exact .inr h
theorem SqT.mod {p:Addr} {xs:List V} {its:List Value} {n:Nat} (lk:K.lookup p=some { cls:=.type "tuple", data:=.seq its.toArray n }) (hz:its.length≤1000) (r:Vals xs its):SqT K H p xs:=.inr ⟨_,its.toArray,n,lk,rfl,rfl,small (by simpa using hz),by simpa using r⟩
end
def stL (x:Str) (b:Bool):List Nat:=if x = "minus" then (if b then [45] else []) else if x = "plus" then (if b then [45] else [43]) else if x = "blank" then (if b then [45] else [32]) else if x = "brackets" then (if b then [40] else []) else []
def stT (x:Str) (b:Bool):List Nat:=if x = "minus" then [] else if x = "plus" then [] else if x = "blank" then [] else if x = "brackets" then (if b then [41] else []) else (if b then [45] else [])
def zFN (x:Str):Prop:=x = "minus" ∨ x = "plus" ∨ x = "blank" ∨ x = "brackets" ∨ x = "behind"
theorem zCy (b:Bool):stL "minus" b=(if b then [45] else [])∧stT "minus" b=[]:=by unfold stL stT;cases b <;> decide +kernel
theorem zD1 (b:Bool):stL "plus" b=(if b then [45] else [43])∧stT "plus" b=[]:=by unfold stL stT;cases b <;> decide +kernel
theorem zC0 (b:Bool):stL "blank" b=(if b then [45] else [32])∧stT "blank" b=[]:=by unfold stL stT;cases b <;> decide +kernel
theorem zBf (b:Bool):stL "brackets" b=(if b then [40] else [])∧stT "brackets" b=(if b then [41] else []):=by unfold stL stT;cases b <;> decide +kernel
theorem zCP (b:Bool):stL "behind" b=[]∧stT "behind" b=(if b then [45] else []):=by unfold stL stT;cases b <;> decide +kernel
theorem zJq {x:Str} (h:zFN x) (b:Bool):(stL x b).length≤1∧(stT x b).length≤1:=by
 rcases h with rfl | rfl | rfl | rfl | rfl
 ·rw [(zCy b).1,(zCy b).2];cases b <;> decide
 ·rw [(zD1 b).1,(zD1 b).2];cases b <;> decide
 ·rw [(zC0 b).1,(zC0 b).2];cases b <;> decide
 ·rw [(zBf b).1,(zBf b).2];cases b <;> decide
 ·rw [(zCP b).1,(zCP b).2];cases b <;> decide
def Sty (w:World) (K:W.Frag) (d:Addr):Prop:=∀ (x:Str),zFN x → ∃ p a b:Addr,KD w K d x p ∧ ∀ H:Hp,SqT K H p [.ref a,.ref b]∧SqT K H a [.str (T (stL x false)),.str (T (stT x false))]∧SqT K H b [.str (T (stL x true)),.str (T (stT x true))]
theorem sty_mk {w:World} {K:W.Frag} {d:Addr} {n0:Nat} {t0:Tok} {p0 a0 b0:Addr} {n01 n02 n03:Nat} {u01 u02 u03 u04:Tok} {t1:Tok} {p1 a1 b1:Addr} {n11 n12 n13:Nat} {u11 u12 u13 u14:Tok} {t2:Tok} {p2 a2 b2:Addr} {n21 n22 n23:Nat} {u21 u22 u23 u24:Tok} {t3:Tok} {p3 a3 b3:Addr} {n31 n32 n33:Nat} {u31 u32 u33 u34:Tok} {t4:Tok} {p4 a4 b4:Addr} {n41 n42 n43:Nat} {u41 u42 u43 u44:Tok}
  (hd:K.lookup d=some { cls:=.type "dict", data:=.dict #[⟨PyData.keyHash w.params "minus", .str "minus" t0,.ref p0⟩,⟨PyData.keyHash w.params "plus", .str "plus" t1,.ref p1⟩,⟨PyData.keyHash w.params "blank", .str "blank" t2,.ref p2⟩,⟨PyData.keyHash w.params "brackets", .str "brackets" t3,.ref p3⟩,⟨PyData.keyHash w.params "behind", .str "behind" t4,.ref p4⟩] n0 })
  (hp0:K.lookup p0=some { cls:=.type "tuple", data:=.seq #[.ref a0,.ref b0] n01 })
  (ha0:K.lookup a0=some { cls:=.type "tuple", data:=.seq #[.str "" u01,.str "" u02] n02 })
  (hb0:K.lookup b0=some { cls:=.type "tuple", data:=.seq #[.str "-" u03,.str "" u04] n03 })
  (hp1:K.lookup p1=some { cls:=.type "tuple", data:=.seq #[.ref a1,.ref b1] n11 })
  (ha1:K.lookup a1=some { cls:=.type "tuple", data:=.seq #[.str "+" u11,.str "" u12] n12 })
  (hb1:K.lookup b1=some { cls:=.type "tuple", data:=.seq #[.str "-" u13,.str "" u14] n13 })
  (hp2:K.lookup p2=some { cls:=.type "tuple", data:=.seq #[.ref a2,.ref b2] n21 })
  (ha2:K.lookup a2=some { cls:=.type "tuple", data:=.seq #[.str " " u21,.str "" u22] n22 })
  (hb2:K.lookup b2=some { cls:=.type "tuple", data:=.seq #[.str "-" u23,.str "" u24] n23 })
  (hp3:K.lookup p3=some { cls:=.type "tuple", data:=.seq #[.ref a3,.ref b3] n31 })
  (ha3:K.lookup a3=some { cls:=.type "tuple", data:=.seq #[.str "" u31,.str "" u32] n32 })
  (hb3:K.lookup b3=some { cls:=.type "tuple", data:=.seq #[.str "(" u33,.str ")" u34] n33 })
  (hp4:K.lookup p4=some { cls:=.type "tuple", data:=.seq #[.ref a4,.ref b4] n41 })
  (ha4:K.lookup a4=some { cls:=.type "tuple", data:=.seq #[.str "" u41,.str "" u42] n42 })
  (hb4:K.lookup b4=some { cls:=.type "tuple", data:=.seq #[.str "" u43,.str "-" u44] n43 }):Sty w K d:=by
 have ks : ∀ e,e ∈ (#[⟨PyData.keyHash w.params "minus", .str "minus" t0,.ref p0⟩,⟨PyData.keyHash w.params "plus", .str "plus" t1,.ref p1⟩,⟨PyData.keyHash w.params "blank", .str "blank" t2,.ref p2⟩,⟨PyData.keyHash w.params "brackets", .str "brackets" t3,.ref p3⟩,⟨PyData.keyHash w.params "behind", .str "behind" t4,.ref p4⟩]:Array DictEntry) → ∃ k,Value.isStrOf k e.key=true∧e.hash=hashStr w k:=by
  intro e he
  simp only [List.mem_toArray,List.mem_cons,List.not_mem_nil,or_false] at he
  rcases he with rfl | rfl | rfl | rfl | rfl
  ·exact ⟨"minus", by simp [Value.isStrOf],rfl⟩
  ·exact ⟨"plus", by simp [Value.isStrOf],rfl⟩
  ·exact ⟨"blank", by simp [Value.isStrOf],rfl⟩
  ·exact ⟨"brackets", by simp [Value.isStrOf],rfl⟩
  ·exact ⟨"behind", by simp [Value.isStrOf],rfl⟩
 intro x hx
 rcases hx with rfl | rfl | rfl | rfl | rfl
 ·refine ⟨p0,a0,b0,⟨_,_,hd,ks,?_⟩,fun H=>⟨.mod hp0 (by simp) (.cons rfl (.cons rfl .nil)),.mod ha0 (by simp) (.cons ⟨u01,?_⟩ (.cons ⟨u02,?_⟩ .nil)),.mod hb0 (by simp) (.cons ⟨u03,?_⟩ (.cons ⟨u04,?_⟩ .nil))⟩⟩
  ·unfold findBy
   simp only [List.find?_toArray,List.find?_cons]
   rfl
  ·exact congrArg (fun z=>Value.str z _) (by rw [(zCy _).1];decide +kernel)
  ·exact congrArg (fun z=>Value.str z _) (by rw [(zCy _).2];decide +kernel)
  ·exact congrArg (fun z=>Value.str z _) (by rw [(zCy _).1];decide +kernel)
  ·exact congrArg (fun z=>Value.str z _) (by rw [(zCy _).2];decide +kernel)
 ·refine ⟨p1,a1,b1,⟨_,_,hd,ks,?_⟩,fun H=>⟨.mod hp1 (by simp) (.cons rfl (.cons rfl .nil)),.mod ha1 (by simp) (.cons ⟨u11,?_⟩ (.cons ⟨u12,?_⟩ .nil)),.mod hb1 (by simp) (.cons ⟨u13,?_⟩ (.cons ⟨u14,?_⟩ .nil))⟩⟩
  ·unfold findBy
   simp only [List.find?_toArray,List.find?_cons]
   rfl
  ·exact congrArg (fun z=>Value.str z _) (by rw [(zD1 _).1];decide +kernel)
  ·exact congrArg (fun z=>Value.str z _) (by rw [(zD1 _).2];decide +kernel)
  ·exact congrArg (fun z=>Value.str z _) (by rw [(zD1 _).1];decide +kernel)
  ·exact congrArg (fun z=>Value.str z _) (by rw [(zD1 _).2];decide +kernel)
 ·refine ⟨p2,a2,b2,⟨_,_,hd,ks,?_⟩,fun H=>⟨.mod hp2 (by simp) (.cons rfl (.cons rfl .nil)),.mod ha2 (by simp) (.cons ⟨u21,?_⟩ (.cons ⟨u22,?_⟩ .nil)),.mod hb2 (by simp) (.cons ⟨u23,?_⟩ (.cons ⟨u24,?_⟩ .nil))⟩⟩
  ·unfold findBy
   simp only [List.find?_toArray,List.find?_cons]
   rfl
  ·exact congrArg (fun z=>Value.str z _) (by rw [(zC0 _).1];decide +kernel)
  ·exact congrArg (fun z=>Value.str z _) (by rw [(zC0 _).2];decide +kernel)
  ·exact congrArg (fun z=>Value.str z _) (by rw [(zC0 _).1];decide +kernel)
  ·exact congrArg (fun z=>Value.str z _) (by rw [(zC0 _).2];decide +kernel)
 ·refine ⟨p3,a3,b3,⟨_,_,hd,ks,?_⟩,fun H=>⟨.mod hp3 (by simp) (.cons rfl (.cons rfl .nil)),.mod ha3 (by simp) (.cons ⟨u31,?_⟩ (.cons ⟨u32,?_⟩ .nil)),.mod hb3 (by simp) (.cons ⟨u33,?_⟩ (.cons ⟨u34,?_⟩ .nil))⟩⟩
  ·unfold findBy
   simp only [List.find?_toArray,List.find?_cons]
   rfl
  ·exact congrArg (fun z=>Value.str z _) (by rw [(zBf _).1];decide +kernel)
  ·exact congrArg (fun z=>Value.str z _) (by rw [(zBf _).2];decide +kernel)
  ·exact congrArg (fun z=>Value.str z _) (by rw [(zBf _).1];decide +kernel)
  ·exact congrArg (fun z=>Value.str z _) (by rw [(zBf _).2];decide +kernel)
 ·refine ⟨p4,a4,b4,⟨_,_,hd,ks,?_⟩,fun H=>⟨.mod hp4 (by simp) (.cons rfl (.cons rfl .nil)),.mod ha4 (by simp) (.cons ⟨u41,?_⟩ (.cons ⟨u42,?_⟩ .nil)),.mod hb4 (by simp) (.cons ⟨u43,?_⟩ (.cons ⟨u44,?_⟩ .nil))⟩⟩
  ·unfold findBy
   simp only [List.find?_toArray,List.find?_cons]
   rfl
  ·exact congrArg (fun z=>Value.str z _) (by rw [(zCP _).1];decide +kernel)
  ·exact congrArg (fun z=>Value.str z _) (by rw [(zCP _).2];decide +kernel)
  ·exact congrArg (fun z=>Value.str z _) (by rw [(zCP _).1];decide +kernel)
  ·exact congrArg (fun z=>Value.str z _) (by rw [(zCP _).2];decide +kernel)
section
variable {X : Cx} {σ : St} {H : Hp} {Q : VK} {D : Ends} {K : W.Frag}
def zWT (K:PySem.W.Frag) (g:TG) (tb:TS) (D:Ends) (σ:St) (x:V) (H:Hp):Prop:=∃ a,x = .ref a∧(∃ xs,SqT K H a xs) ∧ ∃ W:Nat→Nat→St→Hp→Prop,(∃ m,W 0 m σ H) ∧ ∀ i m σ H,W i m σ H →
 ((Itt K a).stop i H∧D.nx σ H)∨((Itt K a).go i H ∧ ∃ N:St→Hp→Prop,(∀ σ' H',N σ' H' → ∃ m',m' < m∧W (i+1) m' σ' H') ∧ ∀ x H',(Itt K a).yld i H x H'→g x σ H' fun σ2 H2=>tb { D with nx:=N,ct:=N,bk:=D.nx } σ2 H2)
theorem zVf {tl:TE} {g:TG} {tb:TS} (h:tl σ H (zWT K g tb D σ)):tFor (iTup K tl) g tb D σ H:=h
theorem zUh {g:TG} {tb:TS} {a:Addr} {xs:List V} (hx:SqT K H a xs) (Pv:Nat→St→Hp→Prop) (h0:Pv 0 σ H) (hl : ∀ i σ H,i≤xs.length→Pv i σ H→SqT K H a xs)
  (hs : ∀ i x σ H,xs[i]? = some x→Pv i σ H→g x σ H fun σ2 H2=>tb { D with nx:=Pv (i+1),ct:=Pv (i+1),bk:=D.nx } σ2 H2) (hd : ∀ σ H,Pv xs.length σ H→D.nx σ H):zWT K g tb D σ (.ref a) H:=⟨a,rfl,⟨xs,hx⟩,zUF Pv h0 hl hs hd⟩
theorem zVn : ∀ c ∈ List.range 127,(!(Builtin.Str.occurrences "0123456789abcdef" (T [c]) 0 (Str.ofString "0123456789abcdef").length 1).isEmpty)=decide (0≤fv c):=by decide +kernel
theorem zXJ {c:Nat} (h:c < 127) (q:Q (.bl (decide (0≤fv c))) H):rInS (.str (T [c])) (.str "0123456789abcdef") H Q:=zWA (by rw [zVn c (List.mem_range.mpr h)];exact q)
theorem zUd {lo hi:Option Int} (q:Q (.str (T [])) H):rSlS (.str (T [])) lo hi H Q:=by
 refine zRw (by decide) ?_
 rw [zLR,Lt_T];simpa using q
end
def bod (x:Str) (b:Bool) (t:List Nat):List Nat:=(t.take (t.length - (stT x b).length)).drop (stL x b).length
def Fg (l:List Nat):Prop:=l≠[]∧0≤fv (l.getD 0 0)∧0≤fv (l.getD (l.length - 1) 0)
def Sgd (x:Str) (b:Bool) (t:List Nat):Prop:=Fg (bod x b t)∧stL x b++bod x b t++stT x b=t
theorem zTE {x:Str} {b:Bool} {t:List Nat}:(bod x b t).length=t.length - (stT x b).length - (stL x b).length:=by
 unfold bod;rw [List.length_drop,List.length_take];omega
theorem zT8 {x:Str} {b:Bool} {t:List Nat} (h:Asc t):Asc (bod x b t):=(h.take _).drop _
theorem zNz {t:List Nat} {i:Nat} (h:Asc t) (hi:i < t.length):t.getD i 0 < 127:=by
 rw [List.getD_eq_getElem?_getD,List.getElem?_eq_getElem hi];exact h _ (List.getElem_mem hi)
theorem zJT {c d:Nat} (h:0≤fv c) (e:c=d) (hd:fv d = -1):False:=by rw [e,hd] at h;omega
theorem zHl {x:Str} (hx:zFN x) {t:List Nat} (h0:Sgd x false t) (h1:Sgd x true t):False:=by
 have b0:=List.length_pos_iff.mpr h0.1.1
 have b1:=List.length_pos_iff.mpr h1.1.1
 have e0:=h0.2
 have e1:=h1.2
 have f0:=h0.1.2
 generalize hB:bod x false t=B at *
 generalize hC:bod x true t=C at *
 have e:=e0.trans e1.symm
 rcases hx with rfl | rfl | rfl | rfl | rfl
 ·rw [(zCy _).1,(zCy _).2,(zCy _).1,(zCy _).2] at e
  have z1:=congrArg (fun l=>l.getD 0 0) e
  exact zJT f0.1 (by simpa using z1) (by decide)
 ·rw [(zD1 _).1,(zD1 _).2,(zD1 _).1,(zD1 _).2] at e
  have z1:=congrArg (fun l=>l.getD 0 0) e
  simp at z1
 ·rw [(zC0 _).1,(zC0 _).2,(zC0 _).1,(zC0 _).2] at e
  have z1:=congrArg (fun l=>l.getD 0 0) e
  simp at z1
 ·rw [(zBf _).1,(zBf _).2,(zBf _).1,(zBf _).2] at e
  have z1:=congrArg (fun l=>l.getD 0 0) e
  exact zJT f0.1 (by simpa using z1) (by decide)
 ·rw [(zCP _).1,(zCP _).2,(zCP _).1,(zCP _).2] at e
  have e':B=C++[45]:=by simpa using e
  have z1:B.getD (B.length - 1) 0=45:=by
   rw [e',List.length_append,List.length_singleton,Nat.add_sub_cancel,zMU (Nat.le_refl _),Nat.sub_self];rfl
  exact zJT f0.2 z1 (by decide)
theorem zP8 {x:Str} (h:zFN x) (b:Bool):Asc (stL x b)∧Asc (stT x b):=by
 unfold Asc
 rcases h with rfl | rfl | rfl | rfl | rfl
 ·rw [(zCy b).1,(zCy b).2];cases b <;> decide
 ·rw [(zD1 b).1,(zD1 b).2];cases b <;> decide
 ·rw [(zC0 b).1,(zC0 b).2];cases b <;> decide
 ·rw [(zBf b).1,(zBf b).2];cases b <;> decide
 ·rw [(zCP b).1,(zCP b).2];cases b <;> decide
section
variable {X : Cx} {H : Hp} {Q : VK} {K : W.Frag} {σ : St}
def rRjT:V→List V→Hp→VK→Prop:=fun x vs H Q=>∃ (a:List Nat) (i:Int) (c:Nat),x = .str (T a)∧vs=[.int i,.str (T [c])]∧0≤i∧i≤1000∧Q (.str (T (List.replicate (i.toNat - a.length) c++a))) H
theorem zPd:MtR X "str.rjust" rRjT:=by
 intro pins s σ H x vs v us Q I rx rv h
 obtain ⟨a,i,c,rfl,rfl,h0,h1,q⟩:=h
 obtain ⟨t,rfl⟩:=rx
 obtain ⟨u1,u2,rfl,r1,r2⟩:=zRf rv
 obtain ⟨t1,rfl⟩:=r1
 obtain ⟨t2,rfl⟩:=r2
 have pk:PadOk i=true:=by
  unfold PadOk Builtin.Str.tooLong fitsSsize
  have : ¬ i.toNat > sizeLine:=by show ¬ i.toNat > 16777216;omega
  rw [decide_eq_false this]
  simp
  omega
 refine rjust_fill pk rfl fun t' k=>⟨.str _,H,I.tok _,⟨t',rfl⟩,?_⟩
 have e:Txt.rjustF (T a) i ((T [c]).cps.getD 0 0)=T (List.replicate (i.toNat - a.length) c++a):=zKl (rjustF_list (T a) i c)
 rw [e];exact q
theorem zWr {a:List Nat} {i:Int} {c:Nat} (h0:0≤i) (h1:i≤1000) (q:Q (.str (T (List.replicate (i.toNat - a.length) c++a))) H):rRjT (.str (T a)) [.int i,.str (T [c])] H Q:=⟨a,i,c,rfl,rfl,h0,h1,q⟩
end
def dgs (b p n:Nat):List Nat:=List.replicate (p+1 - (figs b n).length) 48++figs b n
theorem zJN {b p n:Nat} (h2:2≤b) (h16:b≤16) (hp:p≤6) (h:n < b ^ (40+p)):FigB b (dgs b p n)∧val b (dgs b p n)=n∧p+1≤(dgs b p n).length∧(dgs b p n).length≤40+p∧((dgs b p n).getD 0 0=48→(dgs b p n).length=p+1):=by
 have s:=zMI h2 h16 n n (Nat.le_refl _)
 have ln:=zK0 h2 (39+p) n (by rw [show 39+p+1=40+p by omega];exact h)
 have ps:=List.length_pos_iff.mpr s.2.2.1
 have ld:(dgs b p n).length=p+1 - (figs b n).length+(figs b n).length:=by unfold dgs;rw [List.length_append,List.length_replicate]
 refine ⟨(FigB.noughts (by omega) _).app s.1,?_,by omega,by omega,fun z=>?_⟩
 ·unfold dgs;rw [zJw];exact s.2.1
 ·rcases Nat.lt_or_ge (p+1) (figs b n).length with q | q
  ·have e:dgs b p n=figs b n:=by unfold dgs;rw [show p+1 - (figs b n).length=0 by omega];rfl
   rw [e] at z
   have:=s.2.2.2 z
   subst this
   rw [zDQ (by omega)] at q
   simp at q
  ·omega
def whl (b p n:Nat):List Nat:=(dgs b p n).take ((dgs b p n).length - p)
def rst (b p n:Nat):List Nat:=(dgs b p n).drop ((dgs b p n).length - p)
def bdy (b p pt z m n:Nat):List Nat:=if p=0 then gr z m (whl b p n) else gr z m (whl b p n)++[pt]++rst b p n
theorem zQt (b p n:Nat):whl b p n++rst b p n=dgs b p n:=List.take_append_drop _ _
theorem zNo {b p n:Nat} (h2:2≤b) (h16:b≤16) (hp:p≤6) (h:n < b ^ (40+p)):1≤(whl b p n).length∧(whl b p n).length≤40∧(rst b p n).length=p∧((whl b p n).getD 0 0=48→(whl b p n).length=1):=by
 have s:=zJN h2 h16 hp h
 have lw:(whl b p n).length=(dgs b p n).length - p:=by unfold whl;rw [List.length_take];omega
 refine ⟨by omega,by omega,by unfold rst;rw [List.length_drop];omega,fun z=>?_⟩
 have e:(whl b p n).getD 0 0=(dgs b p n).getD 0 0:=by
  rw [← zQt b p n,zID (by omega)]
 rw [e] at z
 have:=s.2.2.2.2 z
 omega
theorem zRm {z m k:Nat} {a:List Nat} (hk:k < a.length):gr z m (a.drop k)=a.getD k 0::((if 0 < z∧0 < a.length - (k+1)∧(a.length - (k+1)) % z=0 then [m] else [])++gr z m (a.drop (k+1))):=by
 have t:=zMp (z:=z) (m:=m) (a:=a) (k:=a.length - (k+1)) (by omega)
 rw [show a.length - (a.length - (k+1)+1)=k by omega,show a.length - 1 - (a.length - (k+1))=k by omega,show a.length - (a.length - (k+1))=k+1 by omega] at t
 exact t
section
variable {X : Cx} {H : Hp} {Q : VK} {K : W.Frag} {σ : St}
theorem zWf {a b:Bool} (q:Q (.bl (!decide (a=b))) H):rNe (.bl a) (.bl b) H Q:=⟨rfl,by
 have e:decide (V.bl a=V.bl b)=decide (a=b):=by
  by_cases h:a=b
  ·rw [decide_eq_true h,decide_eq_true (congrArg V.bl h)]
  ·rw [decide_eq_false h,decide_eq_false (fun z=>h (V.bl.inj z))]
 rw [e];exact q⟩
end
theorem zSY {z m : Nat} : ∀ (k : Nat) (b : List Nat), b.length ≤ k → ∀ c ∈ RJ z m b, c ∈ b ∨ c = m
  | 0, b, h, c, hc => by rw [zFQ (by omega)] at hc; exact .inl hc
  | k + 1, b, h, c, hc => by
    rcases Nat.eq_zero_or_pos z with p | p
    · subst p; rw [zKA] at hc; exact .inl hc
    · rcases Nat.lt_or_ge z b.length with q | q
      · rw [zKH p q] at hc
        rcases List.mem_append.mp hc with hc | hc
        · exact .inl (List.mem_of_mem_take hc)
        · rcases List.mem_cons.mp hc with hc | hc
          · exact .inr hc
          · rcases zSY k (b.drop z) (by rw [List.length_drop]; omega) c hc with hc | hc
            · exact .inl (List.mem_of_mem_drop hc)
            · exact .inr hc
      · rw [zFQ q] at hc; exact .inl hc
theorem zVp {z m:Nat} {a:List Nat} (h:Asc a) (hm:m < 127):Asc (gr z m a):=fun c hc=>by
 unfold gr at hc
 rcases zSY _ a.reverse (Nat.le_refl _) c (List.mem_reverse.mp hc) with z | z
 ·exact h c (List.mem_reverse.mp z)
 ·rw [z];exact hm
theorem zUb {z m:Nat} {b:List Nat} (h:0 < b.length):(RJ z m b).getD 0 0=b.getD 0 0:=by
 rcases Nat.eq_zero_or_pos z with p | p
 ·subst p;rw [zKA]
 ·rcases Nat.lt_or_ge z b.length with q | q
  ·rw [zKH p q,zID (by rw [List.length_take];omega),List.getD_eq_getElem?_getD,List.getElem?_take,if_pos p,← List.getD_eq_getElem?_getD]
  ·rw [zFQ q]
theorem zUK {z m:Nat} {a:List Nat} (h:0 < a.length):(gr z m a).getD ((gr z m a).length - 1) 0=a.getD (a.length - 1) 0:=by
 have l:=zMd (z:=z) (m:=m) (a:=a)
 have e1:(RJ z m a.reverse).getD 0 0=a.reverse.getD 0 0:=zUb (by rw [List.length_reverse];exact h)
 rw [zKn h] at e1
 have e2:(gr z m a).reverse=RJ z m a.reverse:=by unfold gr;rw [List.reverse_reverse]
 rw [← e2,zKn (by omega)] at e1
 rw [show (gr z m a).length - 1=(gr z m a).length - 1 - 0 by omega,e1];rfl
theorem zPW {z m:Nat} {a:List Nat} (h:0 < a.length):(gr z m a).getD 0 0=a.getD 0 0:=by
 have f:=zRm (z:=z) (m:=m) (a:=a) (k:=0) h
 rw [List.drop_zero] at f
 rw [f];rfl
theorem FigB.get {b:Int} {l:List Nat} (h:FigB b l) {i:Nat} (hi:i < l.length):0≤fv (l.getD i 0):=by
 rw [List.getD_eq_getElem?_getD,List.getElem?_eq_getElem hi];exact (h _ (List.getElem_mem hi)).2.1
theorem zNr {b p pt z m n:Nat} (h2:2≤b) (h16:b≤16) (hp:p≤6) (h:n < b ^ (40+p)) (hpt:pt < 127) (hm:m < 127):Fg (bdy b p pt z m n)∧Asc (bdy b p pt z m n)∧(bdy b p pt z m n).length≤100:=by
 have ds:=zJN h2 h16 hp h
 have ws:=zNo h2 h16 hp h
 have wr:=zQt b p n
 have fw:FigB b (whl b p n):=fun c hc=>ds.1 c (by rw [← wr];exact List.mem_append_left _ hc)
 have fr:FigB b (rst b p n):=fun c hc=>ds.1 c (by rw [← wr];exact List.mem_append_right _ hc)
 have gl:=zMd (z:=z) (m:=m) (a:=whl b p n)
 have ag:=zVp (z:=z) (m:=m) fw.asc hm
 unfold bdy Fg
 rcases Nat.eq_zero_or_pos p with q | q
 ·rw [if_pos q]
  refine ⟨⟨List.length_pos_iff.mp (by omega),?_,?_⟩,ag,by omega⟩
  ·rw [zPW (by omega)];exact fw.get (by omega)
  ·rw [zUK (by omega)];exact fw.get (by omega)
 ·rw [if_neg (by omega)]
  refine ⟨⟨by simp,?_,?_⟩,(ag.app (Asc.one hpt)).app fr.asc,by simp only [List.length_append,List.length_singleton];omega⟩
  ·rw [List.append_assoc,zID (by omega),zPW (by omega)];exact fw.get (by omega)
  ·rw [zMU (by simp only [List.length_append,List.length_singleton];omega)]
   exact fr.get (by simp only [List.length_append,List.length_singleton];omega)
theorem zQX {x:Str} {b:Bool} {B:List Nat}:bod x b (stL x b++B++stT x b)=B:=by
 unfold bod
 rw [show (stL x b++B++stT x b).length - (stT x b).length=(stL x b++B).length by simp only [List.length_append];omega,List.take_append_of_le_length (Nat.le_refl _),List.take_length,List.drop_append,List.drop_of_length_le (Nat.le_refl _),Nat.sub_self];rfl
def zSR (X:Cx) (E:XK):Prop:=∀ (pins:List (Addr × Obj)) (σ:St) (e:Value) (s':Shared),XP X pins σ E e s'→X.xe e s'
section
variable {P : Program} {w : World} {K : W.Frag} {mg : Str → Option Value} {base : Heap} {N : List Str} {qual : Str} {scope : Scope} {f : Addr} {cd : Value} {A : Around} {outer : List Env} {s : Shared} {H : Hp} {E : XK}
theorem zMA : zSR (cxOf (CXE P w) P w K mg base N qual scope f cd A outer s H E) E := by
  intro pins σ e s' h
  obtain ⟨H1, s1, I1, fl⟩ := h
  obtain ⟨x, C, a0, H', B, rfl, hos, hbare, fly, clo, hx1, hx2, q⟩ := fl
  refine wpAny_leaves_onW I1.ok.frames rfl fly fun h2 fly2 sm => ?_
  refine ⟨x, C, a0, H', B, rfl, hos.trans I1.os, hbare, fly2, fun h3 st sm3 => ?_, ?_, hx2, q⟩
  · have cl := clo h3 st (sm.trans sm3)
    have I3 := I1.call' (s' := { s' with heap := h3 }) hos cl.1 cl.2 hbare (fun b z => nomatch z)
    exact ⟨I3.base, I3.hok⟩
  · cases z : s.heap.get? x with
    | none => rfl
    | some o =>
      obtain ⟨o', e1⟩ := I1.base.there x o z (fun h => nomatch h)
      rw [hx1] at e1; cases e1
end
theorem zR8 {X : Cx} {x : Str} {k n : Nat} {ps : List Str} {sp : Sp} {p pos : Pos} {e : Expr} {es : List Expr} {t : TA} {E : XK} (F : HasX X.prog X.w X.K X.mg X.base x k ps sp) (pp : zSR X E) (hr : Room n X.A) (hg : Gl X x) (ha : PA X (e :: es) t)
    (hk : k ≤ n := by decide)
    (hdb : (x == ("__debug__" : Str)) = false := by decide) (he : starEach (e :: es) X.env = (false, eval e X.env) :: starEach es X.env := by rfl) (hpl : (backTo pos (starEach es X.env)).any (·.1) = false := by rfl) :
    PE X (.Call (.Name x p) (e :: es) [] pos) (zMm sp [] E t) := by
  intro pins s σ H Q I h
  obtain ⟨f, fd, G, hm, kp, hb⟩ := F
  refine wpAny_Call_Name_kw (zCq I hg hm ?_ hdb)
  refine W.callWith_K (h₀ := X.base) I.ok.mod.kin kp (thn (ha pos pins s σ H _ I h) fun us s1 ⟨vs, H1, I1, r, q⟩ => ⟨I1.kIn, ?_⟩) he hpl
  have r2 : Vals (vs ++ []) (us ++ []) := r.append .nil
  have hl : (us ++ []).length = ps.length := by rw [← r2.length]; exact G.len _ _ _ _ q
  refine wpAny_call (codeAny_mono (G.run X.A X.stack s1 H1 ⟨us, []⟩ (us ++ []) (vs ++ []) Q E (hr.mono hk) I1.env0 (hb s1 us I1.kIn hl) r2 q) fun r s' hq => ?_)
  cases r with
  | error e => exact pp pins σ e s' ⟨H1, s1, I1, hq⟩
  | ok fl =>
    cases fl with
    | ret u => exact I1.after hq
    | next => exact hq.elim
    | brk => exact hq.elim
    | cont => exact hq.elim
theorem zPQ {P:Program} {w:World} {K:W.Frag} {mg:Str→Option Value} {base:Heap} {N:List Str} {qual:Str} {scope:Scope} {f:Addr} {cd:Value} {A:Around} {outer:List Env} {s:Shared} {H:Hp} {E:XK}:zEY (CXE P w) (cxOf (CXE P w) P w K mg base N qual scope f cd A outer s H E) E:=fun pins σ H1 s1 e s' I h=>zMA pins σ e s' ⟨H1,s1,I,h⟩
abbrev tsV (ts:List (List Nat)):List V:=ts.map fun l=>V.str (T l)
theorem zPR (ts:List (List Nat)):(tsV ts).all zKK=true:=by
 rw [List.all_eq_true];intro x hx
 obtain ⟨l,_,rfl⟩:=List.mem_map.mp hx
 rfl
theorem zWC (a b:List Nat):eqV (.str (T a)) (.str (T b))=decide (a=b):=by
 show (T a == T b)=_
 rw [Bool.eq_iff_iff,beq_iff_eq,decide_eq_true_iff,T_eq]
section
variable {X : Cx} {H : Hp} {Q : VK} {K : W.Frag}
theorem zSu (t:List Nat) (ts:List (List Nat)):inV (.str (T t)) (tsV ts)=decide (t ∈ ts):=by
 unfold inV
 rw [Bool.eq_iff_iff,List.any_eq_true,decide_eq_true_iff]
 constructor
 ·rintro ⟨y,hy,e⟩
  obtain ⟨l,hl,rfl⟩:=List.mem_map.mp hy
  rw [zWC,decide_eq_true_iff] at e
  exact e ▸ hl
 ·intro h
  exact ⟨_,List.mem_map.mpr ⟨t,h,rfl⟩,by rw [zWC,decide_eq_true_iff]⟩
theorem zWG {p:Addr} {t:List Nat} {ts:List (List Nat)} (h:SqL K H p (tsV ts)) (q:Q (.bl (decide (t ∈ ts))) H):rIn K false (.str (T t)) (.ref p) H Q:=⟨p,_,rfl,.inl h,rfl,zPR ts,by rw [zSu];exact q⟩
theorem zUf {p:Addr} {t:List Nat} {ts:List (List Nat)} (h:SqL K H p (tsV ts)) (q:Q (.bl (!decide (t ∈ ts))) H):rIn K true (.str (T t)) (.ref p) H Q:=⟨p,_,rfl,.inl h,rfl,zPR ts,by rw [zSu];exact q⟩
theorem zTZ {p:Addr} {ts:List (List Nat)} (h:SqL K H p (tsV ts)) (h0:0 < ts.length) (q:Q (.str (T (ts.getD (ts.length - 1) []))) H):rIxL K (.ref p) (.int (-1)) H Q:=by
 refine zOM h (v:=.str (T (ts.getD (ts.length - 1) []))) ?_ q
 unfold atI ixN
 rw [List.length_map,if_neg (show ¬ (0:Int) ≤ -1 by decide),if_pos (show -(ts.length:Int) ≤ -1 by omega)]
 show (tsV ts)[((-1:Int)+ts.length).toNat]? = _
 rw [show ((-1:Int)+ts.length).toNat=ts.length - 1 by omega,List.getElem?_map,List.getD_eq_getElem?_getD,List.getElem?_eq_getElem (by omega)]
 rfl
theorem zTJ {l:Addr} {xs:List V} (h:H l=some (.lst xs)) (q:Q .non (upd H l (.lst []))):zSZ (.ref l) [] H Q:=⟨l,xs,rfl,rfl,h,q⟩
def zNR (K:W.Frag):List V→Hp→VK→Prop:=fun xs H Q=>∃ p ys,xs=[.ref p]∧(SqL K H p ys∨SqT K H p ys) ∧ ∀ l,H l=none→Q (.ref l) (upd H l (.lst ys))
theorem zDq:zGH X (.type "list") (zNR X.K):=zLg
theorem zNp {p:Addr} {ys:List V} (h:SqL K H p ys) (q : ∀ l H',Same H H'→H l=none→H' l=some (.lst ys)→Q (.ref l) H'):zNR K [.ref p] H Q:=⟨p,ys,rfl,.inl h,fun l hl=>q l _ (zAq (Same.refl _) hl) hl zAU⟩
theorem zLM {xs:List V} (hz:xs.length≤sizeLine) (q : ∀ l H',Same H H'→H l=none→H' l=some (.lst xs)→Q (.ref l) H'):kLst Q xs H:=⟨hz,fun l hl=>q l _ (zAq (Same.refl _) hl) hl zAU⟩
def zPV:V→List V→Hp→VK→Prop:=fun x xs H Q=>∃ a b:List Nat,x = .str (T a)∧xs=[.str (T b)]∧Q (.bl (decide (a.take b.length=b))) H
theorem zUl (a b:List Nat):Txt.startswith (T a) (T b)=decide (a.take b.length=b):=by
 have la:(T a).length=a.length:=rfl
 have lb:(T b).length=b.length:=rfl
 unfold Txt.startswith
 rw [StrLaws.subAt_eq,List.drop_zero,la,lb]
 show (decide (0+b.length≤a.length) && (a.take b.length == b))=_
 rw [Bool.eq_iff_iff,Bool.and_eq_true,decide_eq_true_iff,decide_eq_true_iff,beq_iff_eq]
 constructor
 ·exact fun h=>h.2
 ·intro h
  have:=congrArg List.length h
  rw [List.length_take] at this
  exact ⟨by omega,h⟩
theorem zKL:MtR X "str.startswith" zPV:=by
 intro pins s σ H x xs v us Q I rx rv h
 obtain ⟨a,b,rfl,rfl,q⟩:=h
 obtain ⟨t,rfl⟩:=rx
 obtain ⟨u,rfl,ru⟩:=rv.one
 obtain ⟨t',rfl⟩:=ru
 exact SC.startswith ⟨.bl _,H,I,rfl,by rw [zUl];exact q⟩
theorem zRB {a b:List Nat} (q:Q (.bl (decide (a.take b.length=b))) H):zPV (.str (T a)) [.str (T b)] H Q:=⟨a,b,rfl,rfl,q⟩
end
def lk (n w:Int):Int:=if n < w then w - n else 0
def Side (x:Str):Prop:=x = "left" ∨ x = "right" ∨ x = "middle"
def pA (x:Str) (n w:Int):Int:=if x = "left" then 0 else if x = "right" then lk n w else lk n w / 2
def pB (x:Str) (n w:Int):Int:=lk n w - pA x n w
theorem zIM (n w:Int) (h0:0≤n) (hw:w≤40):0≤lk n w∧lk n w≤40∧(w≤n→lk n w=0)∧(n≤w→lk n w=w - n):=by unfold lk;split <;> omega
theorem pAl (n w:Int):pA "left" n w=0:=by unfold pA;rw [if_pos rfl]
theorem pAr (n w:Int):pA "right" n w=lk n w:=by unfold pA;rw [if_neg (by decide +kernel),if_pos rfl]
theorem pAm (n w:Int):pA "middle" n w=lk n w / 2:=by unfold pA;rw [if_neg (by decide +kernel),if_neg (by decide +kernel)]
def zRe (x:Str) (n w:Int):Prop:=0≤pA x n w∧0≤pB x n w∧pA x n w+pB x n w=lk n w∧(x = "left" → pA x n w=0)∧(x = "right" → pB x n w=0)∧(x = "middle" → pB x n w=pA x n w∨pB x n w=pA x n w+1)
theorem zFJ {x:Str} {n w:Int} (hs:Side x) (h0:0≤n) (hw:w≤40):zRe x n w:=by
 have b:=zIM n w h0 hw
 unfold zRe pB
 rcases hs with rfl | rfl | rfl
 ·rw [pAl];exact ⟨by omega,by omega,by omega,fun _=>rfl,fun h=>absurd h (by decide +kernel),fun h=>absurd h (by decide +kernel)⟩
 ·rw [pAr];exact ⟨by omega,by omega,by omega,fun h=>absurd h (by decide +kernel),fun _=>by omega,fun h=>absurd h (by decide +kernel)⟩
 ·rw [pAm];exact ⟨by omega,by omega,by omega,fun h=>absurd h (by decide +kernel),fun h=>absurd h (by decide +kernel),fun _=>by omega⟩
def pad (t:List Nat) (w:Int) (f:Nat) (x:Str):List Nat:=List.replicate (pA x t.length w).toNat f++t++List.replicate (pB x t.length w).toNat f
theorem zJU {t:List Nat} {w:Int} {f:Nat} {x:Str} (h:zRe x t.length w):((pad t w f x).length:Int)=t.length+lk t.length w:=by
 unfold pad;obtain ⟨h1,h2,h3,_⟩:=h
 simp only [List.length_append,List.length_replicate];omega
theorem zSG {t:List Nat} {w:Int} {f:Nat} {x:Str} (h:zRe x t.length w) (h1:w≤t.length) (h2:w≤40):pad t w f x=t:=by
 have b:=zIM t.length w (by omega) h2
 obtain ⟨a1,a2,a3,_⟩:=h
 unfold pad
 rw [show (pA x t.length w).toNat=0 by omega,show (pB x t.length w).toNat=0 by omega];simp
def sl (t:List Nat) (w:Int) (x:Str) (n:Nat):List Nat:=(t.take ((pA x n w)+n).toNat).drop (pA x n w).toNat
def gd (t:List Nat) (w:Int) (f:Nat) (x:Str) (n:Nat):Bool:=decide (pad (sl t w x n) w f x=t)
def zCM (t:List Nat) (w:Int) (f:Nat) (x:Str):List (List Nat):=if w < t.length then [t] else ((List.range (w+1).toNat).filter (gd t w f x)).map (sl t w x)
theorem zJV {p : Nat → Bool} : ∀ N : Nat, (∀ n, n + 1 < N → p n = true → p (n + 1) = true) → ∃ m, m ≤ N ∧ (List.range N).filter p = List.range' m (N - m) ∧ (∀ n, n < m → p n = false) ∧ ∀ n, m ≤ n → n < N → p n = true
  | 0, _ => ⟨0, Nat.le_refl _, rfl, fun n h => absurd h (Nat.not_lt_zero n), fun n _ h => absurd h (Nat.not_lt_zero n)⟩
  | N + 1, h => by
    obtain ⟨m, hm, e, h1, h2⟩ := zJV N (fun n hn => h n (by omega))
    cases hp : p N with
    | true =>
      refine ⟨m, by omega, ?_, h1, fun n a b => ?_⟩
      · rw [List.range_succ, List.filter_append, e, List.filter_cons, if_pos hp, List.filter_nil, show N + 1 - m = N - m + 1 by omega, List.range'_concat]
        congr 2; omega
      · rcases Nat.lt_or_ge n N with q | q
        · exact h2 n a q
        · rw [show n = N by omega]; exact hp
    | false =>
      have hmN : m = N := by
        rcases Nat.lt_or_ge m N with q | q
        · have := h (N - 1) (by omega) (h2 (N - 1) (by omega) (by omega))
          rw [show N - 1 + 1 = N by omega, hp] at this; cases this
        · omega
      refine ⟨N + 1, Nat.le_refl _, ?_, fun n a => ?_, fun n a b => absurd b (by omega)⟩
      · rw [List.range_succ, List.filter_append, e, hmN, List.filter_cons, hp]; simp
      · rcases Nat.lt_or_ge n N with q | q
        · exact h1 n (by omega)
        · rw [show n = N by omega]; exact hp
theorem zHz {x:Str} {n:Nat} {w:Int} (hs:Side x) (h:(n:Int)≤w) (hw:w≤40) : ∃ a b:Nat,pA x n w=a∧pB x n w=b∧(a+b+n:Int)=w∧(x = "left" → a=0)∧(x = "right" → b=0)∧(x = "middle" → a=(w.toNat - n) / 2):=by
 have b:=zFJ (n:=n) hs (by omega) hw
 have l:=zIM n w (by omega) hw
 obtain ⟨b1,b2,b3,b4,b5,b6⟩:=b
 refine ⟨(pA x n w).toNat,(pB x n w).toNat,by omega,by omega,by omega,fun h=>by have:=b4 h;omega,fun h=>by have:=b5 h;omega,fun h=>by have:=b6 h;omega⟩
theorem zIx {t:List Nat} {w:Int} {x:Str} {n a:Nat} (e:pA x n w=a):sl t w x n=(t.take (a+n)).drop a:=by
 unfold sl;rw [e];congr 1
theorem zQN {t:List Nat} {w:Int} {x:Str} {n:Nat} (hs:Side x) (h:(n:Int)≤w) (hw:w≤40) (ht:(t.length:Int)=w):(sl t w x n).length=n:=by
 obtain ⟨a,b,e1,e2,e3,_⟩:=zHz hs h hw
 rw [zIx e1,List.length_drop,List.length_take];omega
theorem zN2 {t:List Nat} {w:Int} {f:Nat} {x:Str} {n a b:Nat} (e1:pA x n w=a) (e2:pB x n w=b) (e3:(a+b+n:Int)=w) (ht:(t.length:Int)=w):gd t w f x n=true↔t.take a=List.replicate a f∧t.drop (a+n)=List.replicate b f:=by
 have hl:(sl t w x n).length=n:=by rw [zIx e1,List.length_drop,List.length_take];omega
 unfold gd pad
 rw [decide_eq_true_iff,hl,e1,e2,Int.toNat_natCast,Int.toNat_natCast,zIx e1]
 have k:t=t.take a++(t.take (a+n)).drop a++t.drop (a+n):=by
  have h1:t.take a++(t.take (a+n)).drop a=t.take (a+n):=by
   rw [show t.take a=(t.take (a+n)).take a by rw [List.take_take,Nat.min_eq_left (by omega)],List.take_append_drop]
  rw [h1,List.take_append_drop]
 constructor
 ·intro h
  have h1:=congrArg (List.take a) h
  have h2:=congrArg (List.drop (a+n)) h
  rw [List.append_assoc,List.take_left' (by rw [List.length_replicate])] at h1
  rw [List.drop_left' (by rw [List.length_append,List.length_replicate,List.length_drop,List.length_take];omega)] at h2
  exact ⟨h1.symm,h2.symm⟩
 ·rintro ⟨h1,h2⟩
  rw [← h1,← h2];exact k.symm
theorem zTi {x:Str} {n a b a' b':Nat} {w:Int} (hs:Side x) (e3:(a+b+n:Int)=w) (e3':(a'+b'+(n+1:Nat):Int)=w) (l:x = "left" → a=0) (l':x = "left" → a'=0) (r:x = "right" → b=0) (r':x = "right" → b'=0) (m:x = "middle" → a=(w.toNat - n) / 2) (m':x = "middle" → a'=(w.toNat - (n+1)) / 2) :
  (a'=a∧b=b'+1∧(x = "left" ∨ (x = "middle" ∧ (w - n) % 2=1)))∨(a=a'+1∧b=b' ∧ ¬ (x = "left" ∨ (x = "middle" ∧ (w - n) % 2=1))):=by
 rcases hs with h | h | h
 ·have:=l h;have:=l' h;exact .inl ⟨by omega,by omega,.inl h⟩
 ·have:=r h;have:=r' h;refine .inr ⟨by omega,by omega,?_⟩
  rintro (h2 | ⟨h2,_⟩)
  ·rw [h] at h2;exact absurd h2 (by decide +kernel)
  ·rw [h] at h2;exact absurd h2 (by decide +kernel)
 ·have:=m h;have:=m' h
  by_cases o:(w - n) % 2=1
  ·exact .inl ⟨by omega,by omega,.inr ⟨h,o⟩⟩
  ·refine .inr ⟨by omega,by omega,?_⟩
   rintro (h2 | ⟨_,h2⟩)
   ·rw [h] at h2;exact absurd h2 (by decide +kernel)
   ·exact o h2
def nxt (t:List Nat) (w:Int) (f:Nat) (x:Str):List Nat:=if x = "left" ∨ (x = "middle" ∧ (w - t.length) % 2=1) then t++[f] else [f]++t
theorem zMl {t:List Nat} {w:Int} {f:Nat} {x:Str} {n:Nat} (hs:Side x) (h:((n+1:Nat):Int)≤w) (hw:w≤40) (ht:(t.length:Int)=w) (g:gd t w f x n=true):gd t w f x (n+1)=true∧sl t w x (n+1)=nxt (sl t w x n) w f x:=by
 obtain ⟨a,b,e1,e2,e3,l,r,m⟩:=zHz (n:=n) hs (by omega) hw
 obtain ⟨a',b',e1',e2',e3',l',r',m'⟩:=zHz (n:=n+1) hs h hw
 have hl:(sl t w x n).length=n:=zQN hs (by omega) hw ht
 obtain ⟨g1,g2⟩:=(zN2 e1 e2 e3 ht).mp g
 rw [zN2 e1' e2' e3' ht,zIx e1',nxt,hl,zIx e1]
 rcases zTi hs e3 e3' l l' r r' m m' with ⟨rfl,rfl,c⟩ | ⟨rfl,rfl,c⟩
 ·rw [if_pos c]
  have e:t.drop (a'+n+1)=List.replicate b' f:=by rw [← List.drop_drop,g2,List.replicate_succ];rfl
  refine ⟨⟨g1,e⟩,?_⟩
  have k:t.take (a'+(n+1))=t.take (a'+n)++[f]:=by
   rw [← Nat.add_assoc,List.take_succ]
   congr 1
   have:(t.drop (a'+n))[0]? = some f:=by rw [g2,List.replicate_succ];rfl
   rw [List.getElem?_drop,Nat.add_zero] at this
   rw [this];rfl
  rw [k,List.drop_append_of_le_length (by rw [List.length_take];omega)]
 ·rw [if_neg c]
  have e:t.take a'=List.replicate a' f:=by
   have:=congrArg (List.take a') g1
   rw [List.take_take,Nat.min_eq_left (by omega),List.take_replicate,Nat.min_eq_left (by omega)] at this;exact this
  refine ⟨⟨e,by rw [show a'+(n+1)=a'+1+n by omega];exact g2⟩,?_⟩
  have k:t[a']? = some f:=by
   have:=congrArg (fun z:List Nat=>z[a']?) g1
   simpa [List.getElem?_take] using this
  rw [show a'+(n+1)=a'+1+n by omega]
  have hk:a' < (t.take (a'+1+n)).length:=by rw [List.length_take];omega
  rw [List.drop_eq_getElem_cons hk]
  have:(t.take (a'+1+n))[a']=f:=by
   have q:(t.take (a'+1+n))[a']? = some f:=by rw [List.getElem?_take,if_pos (by omega)];exact k
   rw [List.getElem?_eq_getElem hk] at q;exact Option.some.inj q
  rw [this];rfl
theorem zU3 {t:List Nat} {w:Int} {x:Str} (hs:Side x) (h0:0≤w) (hw:w≤40) (ht:(t.length:Int)=w):sl t w x w.toNat=t:=by
 obtain ⟨a,b,e1,e2,e3,_⟩:=zHz (n:=w.toNat) hs (by omega) hw
 rw [zIx e1,show a=0 by omega,List.drop_zero,List.take_of_length_le (by omega)]
theorem zUn {t:List Nat} {w:Int} {f:Nat} {x:Str} (hs:Side x) (h0:0≤w) (hw:w≤40) (ht:(t.length:Int)=w):gd t w f x w.toNat=true:=by
 obtain ⟨a,b,e1,e2,e3,_⟩:=zHz (n:=w.toNat) hs (by omega) hw
 rw [zN2 e1 e2 e3 ht,show a=0 by omega,show b=0 by omega]
 exact ⟨rfl,List.drop_of_length_le (by omega)⟩
theorem zKc {t:List Nat} {w:Int} {f:Nat} {x:Str} (hs:Side x) (hw:w≤40) (ht:(t.length:Int)=w) : ∃ m,m≤w.toNat∧zCM t w f x=(List.range' m (w.toNat+1 - m)).map (sl t w x)∧(∀ n,n < m→gd t w f x n=false) ∧ ∀ n,m≤n→n≤w.toNat→gd t w f x n=true:=by
 obtain ⟨m,hm,e,h1,h2⟩:=zJV (p:=gd t w f x) (w.toNat+1) (fun n hn g=>(zMl hs (by omega) hw ht g).1)
 have hm':m≤w.toNat:=by
  rcases Nat.lt_or_ge w.toNat m with q | q
  ·have:=h1 _ q;rw [zUn hs (by omega) hw ht] at this;cases this
  ·exact q
 refine ⟨m,hm',?_,h1,fun n a b=>h2 n a (by omega)⟩
 unfold zCM
 rw [if_neg (by omega),show (w+1).toNat=w.toNat+1 by omega,e]
theorem zHm {t:List Nat} {w:Int} {f:Nat} {x:Str} (h:w < t.length):zCM t w f x=[t]:=by unfold zCM;rw [if_pos h]
theorem zMM {t:List Nat} {w:Int} {f:Nat} {x:Str} (hs:Side x) (hw:w≤40) (h:(t.length:Int) < w):zCM t w f x=[]:=by
 unfold zCM
 rw [if_neg (by omega),List.filter_eq_nil_iff.mpr,List.map_nil]
 intro n _ g
 unfold gd at g
 have g':=congrArg List.length (of_decide_eq_true g)
 have b:=zFJ (n:=(sl t w x n).length) hs (by omega) hw
 have l:=zJU (f:=f) b
 have c:=zIM (sl t w x n).length w (by omega) hw
 omega
theorem zVY {t:List Nat} {w:Int} {f:Nat} {x:Str} (hs:Side x) (hw:w≤40) (h:(t.length:Int)≤w):sl (pad t w f x) w x t.length=t∧gd (pad t w f x) w f x t.length=true∧((pad t w f x).length:Int)=w:=by
 obtain ⟨a,b,e1,e2,e3,_⟩:=zHz (n:=t.length) hs h hw
 have hl:sl (pad t w f x) w x t.length=t:=by
  rw [zIx e1];unfold pad
  rw [e1,e2,Int.toNat_natCast,Int.toNat_natCast,List.take_left' (by rw [List.length_append,List.length_replicate]),List.drop_left' (by rw [List.length_replicate])]
 refine ⟨hl,?_,?_⟩
 ·unfold gd;rw [hl,decide_eq_true_iff]
 ·have l:=zJU (f:=f) (zFJ (n:=t.length) hs (by omega) hw)
  have c:=zIM t.length w (by omega) hw
  omega
def Fst (t:List Nat) (w:Int) (f:Nat) (x:Str):Prop:=w < t.length∨((x = "left" → t.drop (t.length - 1)≠[f])∧(x = "right" → t.take 1≠[f])∧(x = "middle" → t.take 1≠[f]∧t.drop (t.length - 1)≠[f]))
theorem zQ6 {g:Nat→List Nat} {m k n:Nat} (h:k < n):((List.range' m n).map g).getD k []=g (m+k):=by
 rw [List.getD_eq_getElem?_getD,List.getElem?_map,List.getElem?_range' h];simp
structure Fnd (t:List Nat) (w:Int) (f:Nat) (x:Str) (W:List Nat) (F:List (List Nat)):Prop where
 has:t ∈ F
 pos:0 < F.length
 last:F.getD (F.length - 1) []=W
 each : ∀ k,k < F.length→pad (F.getD k []) w f x=W
 len : ∀ k,k < F.length→(F.getD k []).length≤W.length
 next : ∀ k,0 < k→k < F.length→F.getD k []=nxt (F.getD (k - 1) []) w f x
 first:Fst t w f x→F.getD 0 []=t
theorem fnd {t:List Nat} {w:Int} {f:Nat} {x:Str} (hs:Side x) (hw:w≤40):Fnd t w f x (pad t w f x) (zCM (pad t w f x) w f x):=by
 rcases Int.lt_or_le w t.length with q | q
 ·have e:pad t w f x=t:=zSG (zFJ hs (by omega) hw) (by omega) hw
  rw [e,zHm q]
  exact ⟨by simp,by simp,rfl,fun k hk=>by rw [show k=0 by simpa using hk];exact e,fun k hk=>by rw [show k=0 by simpa using hk];exact Nat.le_refl _,fun k h1 h2=>by simp at h2;omega,fun _=>rfl⟩
 ·have h0:0≤w:=by omega
  obtain ⟨p1,p2,p3⟩:=zVY (f:=f) hs hw q
  obtain ⟨m,hm,e,g1,g2⟩:=zKc (f:=f) hs hw p3
  have hmt:m≤t.length:=by
   rcases Nat.lt_or_ge t.length m with r | r
   ·have:=g1 _ r;rw [p2] at this;cases this
   ·exact r
  generalize pad t w f x=W at *
  have hl:(zCM W w f x).length=w.toNat+1 - m:=by rw [e,List.length_map,List.length_range']
  have hg : ∀ k,k < (zCM W w f x).length→(zCM W w f x).getD k []=sl W w x (m+k):=fun k hk=>by
   rw [hl] at hk;rw [e,zQ6 hk]
  refine ⟨?_,by omega,?_,fun k hk=>?_,fun k hk=>?_,fun k h1 h2=>?_,fun hf=>?_⟩
  ·rw [e,List.mem_map]
   refine ⟨t.length,?_,p1⟩
   rw [List.mem_range'];exact ⟨t.length - m,by omega,by omega⟩
  ·rw [hg _ (by omega),hl,show m+(w.toNat+1 - m - 1)=w.toNat by omega,zU3 hs h0 hw p3]
  ·rw [hg k hk]
   have:=g2 (m+k) (by omega) (by omega)
   exact of_decide_eq_true this
  ·rw [hg k hk,zQN hs (by omega) hw p3];omega
  ·rw [hg k h2,hg (k - 1) (by omega),show m+k=m+(k - 1)+1 by omega]
   exact (zMl hs (by omega) hw p3 (g2 _ (by omega) (by omega))).2
  ·rw [hg 0 (by omega),Nat.add_zero]
   rcases Nat.lt_or_ge m t.length with r | r
   ·exfalso
    have gg:=g2 (t.length - 1) (by omega) (by omega)
    have st:=(zMl hs (by omega) hw p3 gg).2
    rw [show t.length - 1+1=t.length by omega,p1] at st
    have hl2:(sl W w x (t.length - 1)).length=t.length - 1:=zQN hs (by omega) hw p3
    generalize sl W w x (t.length - 1)=z at *
    rcases hf with hf | ⟨f1,f2,f3⟩
    ·omega
    ·unfold nxt at st
     split at st
     ·have c:t.drop (t.length - 1)=[f]:=by rw [st,show (z++[f]).length - 1=z.length by simp,List.drop_left]
      rename_i hc
      rcases hc with hc | ⟨hc,_⟩
      ·exact f1 hc c
      ·exact (f3 hc).2 c
     ·have c:t.take 1=[f]:=by rw [st];rfl
      rcases hs with h | h | h
      ·rename_i hc;exact hc (.inl h)
      ·exact f2 h c
      ·exact (f3 h).1 c
   ·rw [show m=t.length by omega];exact p1
def fa (f:Nat):List Nat→Nat
 | []=>0
 | c::t=>if c=f then fa f t+1 else 0
theorem zWo (f:Nat) : ∀ t:List Nat,fa f t≤t.length
 | []=>Nat.le_refl _
 | c::t=>by have:=zWo f t;unfold fa;split <;> simp <;> omega
theorem zM2 {f : Nat} : ∀ {t : List Nat} {a : Nat}, a ≤ t.length → (t.take a = List.replicate a f ↔ a ≤ fa f t)
  | t, 0, _ => by simp
  | [], a + 1, h => by simp at h
  | c :: t, a + 1, h => by
    have ih := zM2 (f := f) (t := t) (a := a) (by simpa using h)
    rw [List.take_succ_cons, List.replicate_succ, List.cons.injEq, ih]
    show (c = f ∧ a ≤ fa f t) ↔ a + 1 ≤ (if c = f then fa f t + 1 else 0)
    by_cases hc : c = f
    · rw [if_pos hc]; simp [hc]
    · rw [if_neg hc]; simp [hc]
theorem zUj {f : Nat} : ∀ {t : List Nat} {k : Nat}, k < fa f t → t.getD k 0 = f
  | [], k, h => by simp [fa] at h
  | c :: t, k, h => by
    unfold fa at h
    split at h
    · rename_i hc
      cases k with
      | zero => simpa using hc
      | succ k => simpa using zUj (t := t) (k := k) (by omega)
    · omega
theorem zW7 {t:List Nat} {w:Int} {f:Nat} {x:Str} {n:Nat} (hs:Side x) (h:(n:Int)≤w) (hw:w≤40) (ht:(t.length:Int)=w):gd t w f x n=decide (pA x n w≤fa f t∧w - n - pA x n w≤fa f t.reverse):=by
 obtain ⟨a,b,e1,e2,e3,_⟩:=zHz hs h hw
 rw [Bool.eq_iff_iff,zN2 e1 e2 e3 ht,decide_eq_true_iff,zM2 (by omega)]
 have k:t.drop (a+n)=List.replicate b f↔b≤fa f t.reverse:=by
  rw [← zM2 (t:=t.reverse) (a:=b) (by rw [List.length_reverse];omega),List.take_reverse,show t.length - b=a+n by omega]
  constructor
  ·intro h;rw [h,List.reverse_replicate]
  ·intro h;have:=congrArg List.reverse h;rw [List.reverse_reverse,List.reverse_replicate] at this;exact this
 rw [k]
 constructor <;> intro h <;> omega
theorem zL0 {t:List Nat} {w:Int} {f:Nat} (hw:w≤40) (ht:(t.length:Int)=w):zCM t w f "right" = (List.range (fa f t+1)).map fun k=>t.drop (fa f t - k):=by
 have hs:Side "right" := .inr (.inl rfl)
 have hf:=zWo f t
 obtain ⟨m,hm,e,g1,g2⟩:=zKc (f:=f) hs hw ht
 have gg : ∀ n:Nat,n≤w.toNat→(gd t w f "right" n=true↔w.toNat - n≤fa f t):=fun n hn=>by
  obtain ⟨a,b,e1,e2,e3,_,r,_⟩:=zHz (x:="right") (n:=n) hs (by omega) hw
  have:=r rfl
  rw [zW7 hs (by omega) hw ht,decide_eq_true_iff,e1]
  constructor <;> intro h <;> omega
 have hmm:m=w.toNat - fa f t:=by
  have h1:=(gg m hm).mp (g2 m (Nat.le_refl _) hm)
  rcases Nat.lt_or_ge (w.toNat - fa f t) m with q | q
  ·have:=g1 _ q
   rw [(gg _ (by omega)).mpr (by omega)] at this;cases this
  ·omega
 rw [e,hmm,show w.toNat+1 - (w.toNat - fa f t)=fa f t+1 by omega]
 apply List.ext_getElem
 ·simp
 ·intro i h1 h2
  have hi:i < fa f t+1:=by simpa using h2
  simp only [List.getElem_map,List.getElem_range',List.getElem_range,Nat.one_mul]
  obtain ⟨a,b,e1,e2,e3,_,r,_⟩:=zHz (x:="right") (n:=w.toNat - fa f t+i) hs (by omega) hw
  have:=r rfl
  rw [zIx e1,List.take_of_length_le (by omega),show a=fa f t - i by omega]
structure FunD (K:W.Frag) (x qual:Str) (st:Stmt) (f:Addr) (fd:FuncData):Prop where
 ex : ∃ (oc:Value) (od:Option Addr) (dV kV doc pm:Value) (an:Option Addr) (cdv ct:Value) (osl:Array (Option Value)),
  fd=W.fnOf x qual (zAL st) (zAK st) (zAF st) dV kV doc pm an cdv ct∧K.lookup f=some ⟨oc,od,.func fd,osl⟩∧W.codeIn K cdv qual=true
 kp:W.keepIn K (.ref f)=true
section
variable {P : Program} {w : World} {K : W.Frag} {mg : Str → Option Value} {base : Heap}
theorem FunD.ok {x qual:Str} {st:Stmt} {f:Addr} {fd:FuncData} {N ps:List Str} {k:Nat} {sp:Sp} (F:FunD K x qual st f fd) (S:zAR N ps (zAF st)) (len : ∀ vs H Q E,sp vs H Q E→vs.length=ps.length)
  (hbody : ∀ (cdv:Value) (A:Around) (outer:List Env) (s:Shared) (H:Hp) (vs:List V) (Q:VK) (E:XK),Room k (A.deeper (envOfC qual (zAF st) s.heap.objs.size f cdv))→sp vs H Q E →
   ∃ t,PSs (cxOf CX0 P w K mg base N qual (zAF st) f cdv A outer s H E).nox (zAK st) t∧t { nx:=fun _ H'=>Q .non H',rt:=Q } (start N vs) H):FnOk P w K mg base CX0 (k+1) f fd ps sp:=by
 obtain ⟨oc,od,dV,kV,doc,pm,an,cdv,ct,osl,rfl,lk,hcd⟩:=F.ex
 refine zPv lk hcd S len fun A outer s H vs Q E hr hsp=>?_
 obtain ⟨t,h,q⟩:=hbody cdv A outer s H vs Q E hr hsp
 exact ⟨t,h.nox,q⟩
theorem FunD.okX {x qual:Str} {st:Stmt} {f:Addr} {fd:FuncData} {N ps:List Str} {k:Nat} {sp:Sp} (F:FunD K x qual st f fd) (S:zAR N ps (zAF st)) (len : ∀ vs H Q E,sp vs H Q E→vs.length=ps.length)
  (hbody : ∀ (cdv:Value) (A:Around) (outer:List Env) (s:Shared) (H:Hp) (vs:List V) (Q:VK) (E:XK),Room k (A.deeper (envOfC qual (zAF st) s.heap.objs.size f cdv))→sp vs H Q E →
   zQ8 (cxOf (CXE P w) P w K mg base N qual (zAF st) f cdv A outer s H E) E→zEY (CXE P w) (cxOf (CXE P w) P w K mg base N qual (zAF st) f cdv A outer s H E) E → ∃ t,PSs (cxOf (CXE P w) P w K mg base N qual (zAF st) f cdv A outer s H E) (zAK st) t∧t { nx:=fun _ H'=>Q .non H',rt:=Q } (start N vs) H):FnOk P w K mg base (CXE P w) (k+1) f fd ps sp:=by
 obtain ⟨oc,od,dV,kV,doc,pm,an,cdv,ct,osl,rfl,lk,hcd⟩:=F.ex
 exact zPv lk hcd S len fun A outer s H vs Q E hr hsp=>hbody cdv A outer s H vs Q E hr hsp (fun pins σ H s h' x C args I hm q=>zJl I hm q) zPQ
theorem FunD.binds {x qual:Str} {st:Stmt} {f:Addr} {fd:FuncData} {ps:List Str} (F:FunD K x qual st f fd)
  (h : ∀ (dV kV doc pm:Value) (an:Option Addr) (cdv ct:Value) (us:List Value),us.length=ps.length→bindArgs (W.fnOf x qual (zAL st) (zAK st) (zAF st) dV kV doc pm an cdv ct) ⟨us,[]⟩=pure (ps.zip us)):zB7 K fd ps []:=by
 obtain ⟨oc,od,dV,kV,doc,pm,an,cdv,ct,osl,rfl,lk,hcd⟩:=F.ex
 exact .all (h dV kV doc pm an cdv ct)
theorem zBs {x qual:Str} {st:Stmt} {f:Addr} {oc:Value} {od an:Option Addr} {osl:Array (Option Value)} {dV kV doc pm cdv ct:Value} (l:K.lookup f=some ⟨oc,od,.func (W.fnOf x qual (zAL st) (zAK st) (zAF st) dV kV doc pm an cdv ct),osl⟩)
  (c:W.codeIn K cdv qual=true) (k:W.keepIn K (.ref f)=true):FunD K x qual st f (W.fnOf x qual (zAL st) (zAK st) (zAF st) dV kV doc pm an cdv ct):=⟨⟨oc,od,dV,kV,doc,pm,an,cdv,ct,osl,rfl,l,c⟩,k⟩
end
def HasM (P:Program) (w:World) (K:W.Frag) (mg:Str→Option Value) (base:Heap) (CX:CXT) (C:Addr) (m:Str) (k:Nat) (ps:List Str) (sp:Sp):Prop:=
 ∃ (f:Addr) (fd:FuncData),FnOk P w K mg base CX k f fd ps sp∧Meth K C m f∧zB7 K fd ps []
def HasI (P:Program) (w:World) (K:W.Frag) (mg:Str→Option Value) (base:Heap) (CX:CXT) (C:Addr) (k:Nat) (ps:List Str) (sp:Sp):Prop:=
 ∃ (f:Addr) (fd:FuncData),FnOk P w K mg base CX k f fd ps sp∧Mk K C f∧zB7 K fd ps []
structure zXL (K:W.Frag) (C:Addr) (m:Str) (f:Addr):Prop where
 sp:W.specialIn K (.ref C) "__getattribute__" = some (some (.builtin "type.__getattribute__"))
 rd:W.readsIn K C (.type "type")=true
 fc:W.findCls K (.ref C) (.type "type") m=some (.val (.ref f))
 kp:W.keepIn K (.ref f)=true
def HasC (P:Program) (w:World) (K:W.Frag) (mg:Str→Option Value) (base:Heap) (CX:CXT) (C:Addr) (m:Str) (k:Nat) (ps:List Str) (sp:Sp):Prop:=
 ∃ (f:Addr) (fd:FuncData),FnOk P w K mg base CX k f fd ps sp∧zXL K C m f∧zB7 K fd ps []
section
variable {X : Cx} {CX : CXT} {k n : Nat} {C : Addr} {ps : List Str} {sp : Sp} {E : XK} {x m : Str} {p np pos apos : Pos} {e o : Expr} {es : List Expr} {ta : TE} {t : TA}
theorem zAt {pl:Sem Bool} (F:HasM X.prog X.w X.K X.mg X.base CX C m k ps sp) (c:Cls X.K C) (hx:zEY CX X E) (hr:Room n X.A) (he:PE X o ta) (ha:PA X (e::es) t) (hk:k≤n:=by decide)
  (hst:starEach (e::es) X.env=(false,eval e X.env)::starEach es X.env:=by rfl) (hpl:(backTo pos (starEach es X.env)).any (·.1)=false:=by rfl)
  (ht:eval (.Call (.Attribute o m apos) (e::es) [] pos) X.env=(do
   let ov ← eval o X.env
   standAt apos.atName
   let (f,first) ← holding [ov] (getMethod ov m pl)
   callWith pos f first (backTo pos (starEach (e::es) X.env)) (backToKw pos (keywordEach [] X.env))):=by rfl) :
  PE X (.Call (.Attribute o m apos) (e::es) [] pos) (zLP C m sp [] E ta t):=by
 obtain ⟨f,fd,G,M,b⟩:=F
 exact zT4 (pl:=pl) he c M (G.mono hk) hr b .nil hx ha hst hpl ht
theorem zG5 (F:HasI X.prog X.w X.K X.mg X.base CX C k ps sp) (hx:zEY CX X E) (hr:Room n X.A) (hg:Gl X x) (hm:X.mg x=some (.ref C)) (ha:PA X (e::es) t) (hk:k+1≤n:=by decide)
  (hdb:(x == ("__debug__" : Str))=false:=by decide) (he:starEach (e::es) X.env=(false,eval e X.env)::starEach es X.env:=by rfl) (hpl:(backTo pos (starEach es X.env)).any (·.1)=false:=by rfl) :
  PE X (.Call (.Name x p) (e::es) [] pos) (zTA C sp [] E t):=by
 obtain ⟨f,fd,G,M,b⟩:=F
 exact zTC M G (hr.mono hk) hg hm b .nil hx ha hdb he hpl
theorem zJ6 {pl:Sem Bool} (F:HasC X.prog X.w X.K X.mg X.base CX C m k ps sp) (hx:zEY CX X E) (hr:Room n X.A) (hg:Gl X x) (hm:X.mg x=some (.ref C)) (ha:PA X (e::es) t) (hk:k≤n:=by decide)
  (hdb:(x == ("__debug__" : Str))=false:=by decide) (hst:starEach (e::es) X.env=(false,eval e X.env)::starEach es X.env:=by rfl) (hpl:(backTo pos (starEach es X.env)).any (·.1)=false:=by rfl)
  (ht:eval (.Call (.Attribute (.Name x np) m apos) (e::es) [] pos) X.env=(do
   let ov ← eval (.Name x np) X.env
   standAt apos.atName
   let (f,first) ← holding [ov] (getMethod ov m pl)
   callWith pos f first (backTo pos (starEach (e::es) X.env)) (backToKw pos (keywordEach [] X.env))):=by rfl) :
  PE X (.Call (.Attribute (.Name x np) m apos) (e::es) [] pos) (zMm sp [] E t):=by
 intro pins s σ H Q I h
 obtain ⟨f,fd,G,M,b⟩:=F
 refine W.methodCall_KW (pl:=pl) (zCq I hg hm ?_ hdb) ht
 refine W.method_cls I.kIn M.sp (W.cls_value I.kIn M.rd M.fc rfl ?_)
 have I1:=I.tok (s.toks+1)
 refine W.callWith_K (first:=[]) (h₀:=X.base) I.ok.mod.kin M.kp (thn (ha pos pins _ σ H _ I1 h) fun us s2 ⟨vs,H2,I2,r,q2⟩=>⟨I2.kIn,?_⟩) hst hpl
 exact zOE (us:=us) (vs:=vs) (G.mono hk) hr b .nil hx I2 r q2
end
section
variable {σ : St} {H : Hp} {Q : VK} {D : Ends} {K : W.Frag} {C : Addr} {m f : Str} {sp : Sp} {E : XK} {ta tv : TE} {t : TA} {a : Addr}
def InsM (H:Hp) (a C:Addr) (m:Str):Prop:=∃ dx fs,H a=some (.ins C dx fs)∧fs.lookup m=none
def zEn (K:W.Frag) (H:Hp) (a:Addr) (f:Str) (v:V):Prop:=∃ C dx fs,H a=some (.ins C dx fs)∧Cls K C∧zGQ K C f∧fs.lookup f=some v
theorem InsM.same {H':Hp} (g:Same H H') (h:InsM H a C m):InsM H' a C m:=by obtain ⟨dx,fs,e,l⟩:=h;exact ⟨dx,fs,g _ _ e,l⟩
theorem zEn.same {H':Hp} {v:V} (g:Same H H') (h:zEn K H a f v):zEn K H' a f v:=by obtain ⟨C,dx,fs,e,l⟩:=h;exact ⟨C,dx,fs,g _ _ e,l⟩
def zSF (C:Addr) (m:Str) (sp:Sp) (dvs:List V) (E:XK) (t:TA) (σ:St) (Q:VK):VK:=fun x H1=>∃ a dx fs,x = .ref a∧H1 a=some (.ins C dx fs)∧fs.lookup m=none∧t σ H1 fun vs H2=>sp (x::(vs++dvs)) H2 Q E
theorem zJ0 {dvs:List V} (h:ta σ H (zSF C m sp dvs E t σ Q)):zLP C m sp dvs E ta t σ H Q:=h
theorem zHh {dvs:List V} (hi:InsM H a C m) (h:t σ H fun vs H2=>sp (.ref a::(vs++dvs)) H2 Q E):zSF C m sp dvs E t σ Q (.ref a) H:=by
 obtain ⟨dx,fs,e,l⟩:=hi
 exact ⟨a,dx,fs,rfl,e,l,h⟩
def kFld (K:W.Frag) (f:Str) (Q:VK):VK:=fun x H1=>∃ a C dx fs v,x = .ref a∧H1 a=some (.ins C dx fs)∧Cls K C∧zGQ K C f∧fs.lookup f=some v∧Q v H1
theorem zW1 (h:ta σ H (kFld K f Q)):tFld K ta f σ H Q:=h
theorem zWi {v:V} (hi:zEn K H a f v) (q:Q v H):kFld K f Q (.ref a) H:=by
 obtain ⟨C,dx,fs,e,c,n,l⟩:=hi
 exact ⟨a,C,dx,fs,v,rfl,e,c,n,l,q⟩
def kSet (K:W.Frag) (f:Str) (y:V) (D:Ends) (σ:St):VK:=fun x H2=>∃ a C dx fs,x = .ref a∧H2 a=some (.ins C dx fs)∧Cls K C∧zGQ K C f∧fs.length < 1000∧D.nx σ (upd H2 a (.ins C dx (putF f y fs)))
theorem zVC (h:tv σ H fun y H1=>ta σ H1 (kSet K f y D σ)):sFld K ta tv f D σ H:=h
theorem zD7 {dx:Addr} {fs:List (Str × V)} {y:V} (e:H a=some (.ins C dx fs)) (c:Cls K C) (n:zGQ K C f) (l:fs.length < 1000) (q:D.nx σ (upd H a (.ins C dx (putF f y fs)))):kSet K f y D σ (.ref a) H:=⟨a,C,dx,fs,rfl,e,c,n,l,q⟩
def zWx (C:Addr) (sp:Sp) (dvs:List V) (E:XK) (Q:VK):List V→Hp→Prop:=fun vs H1=>∀ x dx,H1 x=none→H1 dx=none→dx≠x →
 sp (.ref x::(vs++dvs)) (upd (upd H1 dx (.own x)) x (.ins C dx [])) (fun v H2=>v = .non∧Q (.ref x) H2) E
theorem zUm {dvs:List V} (h:t σ H (zWx C sp dvs E Q)):zTA C sp dvs E t σ H Q:=h
theorem zB9 (f:Str) (v:V):putF f v []=[(f,v)]:=rfl
theorem zAz {f k:Str} {v x:V} {r:List (Str × V)} (h:k≠f):putF f v ((k,x)::r)=(k,x)::putF f v r:=by
 rw [show putF f v ((k,x)::r)=(if k=f then (k,v)::r else (k,x)::putF f v r) from rfl,if_neg h]
theorem zHP {k:Str} {x:V} {r:List (Str × V)}:((k,x)::r).lookup k=some x:=by simp [List.lookup]
theorem zBd {f k:Str} {x:V} {r:List (Str × V)} (h:f≠k):((k,x)::r).lookup f=r.lookup f:=by
 have:(f == k)=false:=by simpa using h
 simp [List.lookup,this]
end
def Wk (σc σ:St):Prop:=σc.length=σ.length ∧ ∀ (i:Nat) v,σc[i]? = some (some v)→σ[i]? = some (some v)
theorem Wk.nil:Wk [] []:=⟨rfl,fun i v h=>h⟩
theorem Wk.one {a b:St} {x:Option V} (h:Wk a b):Wk (x::a) (x::b):=⟨by rw [List.length_cons,List.length_cons,h.1],fun i v e=>by
 cases i with
 | zero=>exact e
 | succ i=>exact h.2 i v e⟩
theorem Wk.any {a b:St} {x:Option V} (h:Wk a b):Wk (none::a) (x::b):=⟨by rw [List.length_cons,List.length_cons,h.1],fun i v e=>by
 cases i with
 | zero=>exact absurd (Option.some.inj e) (by simp)
 | succ i=>exact h.2 i v e⟩
def Cx.tr (X:Cx) (pins:List (Addr × Obj)) (σc:St) (E:XK):Cx:={ X with pn:=X.pn++pins,xe:=XP X pins σc E }
section
variable {X : Cx} {pins pins0 : List (Addr × Obj)} {σ σc : St} {H : Hp} {s : Shared} {E : XK}
theorem Cx.Ok.tr (ok:X.Ok):(X.tr pins σc E).Ok:=⟨ok.mod,ok.kind,ok.glob,ok.blt,ok.above,ok.inj,ok.has,ok.cab,ok.hd,ok.frames,ok.stk,ok.exf,ok.bs,ok.bsz,ok.noex,ok.exfs,ok.funs,ok.frf⟩
theorem Cx.Ok.untr (ok:(X.tr pins σc E).Ok):X.Ok:=⟨ok.mod,ok.kind,ok.glob,ok.blt,ok.above,ok.inj,ok.has,ok.cab,ok.hd,ok.frames,ok.stk,ok.exf,ok.bs,ok.bsz,ok.noex,ok.exfs,ok.funs,ok.frf⟩
theorem Inv.tr (I:Inv X pins σ H s):Inv (X.tr pins σc E) [] σ H s:=⟨I.ok.tr,I.os,I.bare,I.base,I.loc,I.cell,I.free,I.freeC,fun p hp=>I.pin p (by simpa [Cx.tr] using hp),I.hok,I.len⟩
theorem Inv.untr (I:Inv (X.tr pins0 σc E) pins σ H s):Inv X pins0 σ H s:=⟨I.ok.untr,I.os,I.bare,I.base,I.loc,I.cell,I.free,I.freeC,fun p hp=>I.pin p (List.mem_append_left _ hp),I.hok,I.len⟩
theorem SP.untr {D:Ends} {f:Flow} {s':Shared} (h:SP (X.tr pins0 σc E) pins D f s'):SP X pins0 D f s':=by
 cases f with
 | next=>obtain ⟨σ',H',I,q⟩:=h;exact ⟨σ',H',I.untr,q⟩
 | brk=>obtain ⟨σ',H',I,q⟩:=h;exact ⟨σ',H',I.untr,q⟩
 | cont=>obtain ⟨σ',H',I,q⟩:=h;exact ⟨σ',H',I.untr,q⟩
 | ret u=>obtain ⟨v,σ',H',I,r,q⟩:=h;exact ⟨v,σ',H',I.untr,r,q⟩
theorem SP.outExc {y:Addr} {D:Ends} {f:Flow} {s':Shared} (ok:X.Ok) (h:SP (X.inExc y) pins D f s'):SP X pins D f s':=by
 cases f with
 | next=>obtain ⟨σ',H',I,q⟩:=h;exact ⟨σ',H',I.outExc ok,q⟩
 | brk=>obtain ⟨σ',H',I,q⟩:=h;exact ⟨σ',H',I.outExc ok,q⟩
 | cont=>obtain ⟨σ',H',I,q⟩:=h;exact ⟨σ',H',I.outExc ok,q⟩
 | ret u=>obtain ⟨v,σ',H',I,r,q⟩:=h;exact ⟨v,σ',H',I.outExc ok,r,q⟩
end
def PHs (X:Cx) (hs:List ExceptHandler) (th:Addr→TS):Prop:=
 ∀ (pins:List (Addr × Obj)) (s:Shared) (σ:St) (H:Hp) (D:Ends) (y C:Addr) (B:Heap) (a0:Value),Heap.FlyingW B (X.env::X.outer) y (.ref C) a0 s.heap→Inv X pins σ H s →
  (∀ h',B.StaysIn h'→s.heap.UpToSlots h'→Inv X pins σ H { s with heap:=h' })→th C D σ H→wpAny (model X.prog X.w) X.A (handleBy (.ref y) X.env hs) (SP X pins D) X.xe s
def tHn:Addr→TS:=fun _ _ _ _=>False
def tHc (K:W.Frag) (C':Addr) (ts:TS) (th:Addr→TS):Addr→TS:=fun C D σ H=>∃ b,W.exmOne K (.ref C) (.ref C')=some b∧if b=true then ts D σ H else th C D σ H
section
variable {X : Cx} {cx : Str} {C' : Addr} {ts : TS} {th : Addr → TS} {np hpos pos : Pos} {b₀ : Stmt} {suite body : List Stmt} {rest hs : List ExceptHandler} {h₀ : ExceptHandler} {tb : St → XK → TS}
theorem zVm:PHs X [] tHn:=fun _ _ _ _ _ _ _ _ _ _ _ _ h=>h.elim
theorem isx {B:Heap} {l:List Env} {y C:Addr} {a0:Value} {h:Heap} (fl:Heap.FlyingW B l y (.ref C) a0 h):ExAt y C h:=by
 obtain ⟨_,_,_,oe,vs,_,_,_,h1,⟨h2,_⟩,h3,_⟩:=fl
 exact ⟨oe,h1,h2,vs,h3⟩
theorem zUD (hgc : Gl X cx) (hmc : X.mg cx = some (.ref C')) (hs : ∀ y, PSs (X.inExc y) (b₀ :: suite) ts) (hr : PHs X rest th) (hdc : (cx == ("__debug__" : Str)) = false := by decide) :
    PHs X (.ExceptHandler (some (.Name cx np)) none (b₀ :: suite) hpos :: rest) (tHc X.K C' ts th) := by
  intro pins s σ H D y C B a0 fly I clo h
  obtain ⟨b, exm, q⟩ := h
  refine wpAny_handleBy_cons (codeAny_handlers_test (zCq (I.inExc y) hgc hmc ?_ hdc)) (by intro q; cases q)
  refine (W.exm_one (M := model X.prog X.w) I.kIn (isx fly).ty exm).here ?_
  cases b with
  | false =>
    rw [if_neg Bool.false_ne_true] at q
    exact hr pins s σ H D y C B a0 fly I clo q
  | true =>
    rw [if_pos rfl] at q
    refine codeAny_handlers_suite (lands_againW fly fun h3 fly3 sm3 => ?_)
    have I3 := clo h3 fly3.1 sm3
    exact wpAny_mono (hs y pins _ σ H D (I3.inExc y) q) (fun f s6 sp6 => sp6.outExc I.ok) fun _ _ z => z.elim
def zVh (tb:St→XK→TS) (th:Addr→TS):TS:=fun D σ H=>∃ σc,tb σc (fun cls _ H2=>∃ C,cls = .ref C∧th C D σc H2) D σ H
theorem zPk (hst:X.stack=X.env::X.outer) (hfr:X.env.frame=some X.env.locals) (hb : ∀ pins σc E,PSs (X.tr pins σc E) body (tb σc E)) (hh:PHs X (h₀::hs) th):PS X (.Try body (h₀::hs) [] [] pos) (zVh tb th):=by
 intro pins s σ H D I h
 obtain ⟨σc,h⟩:=h
 refine wpAny_Try_except (wpAny_mono (hb pins σc _ [] s σ H D I.tr h) (fun f s1 q=>?_) fun er s' z=>?_)
 ·cases f with
  | next=>exact wpAny_execs_nil q.untr
  | ret u=>exact q.untr
  | brk=>exact q.untr
  | cont=>exact q.untr
 ·obtain ⟨H1,s1,I1,fl⟩:=z
  obtain ⟨y,C,a0,H2,B,rfl,hos,hbare,fly,clo,hy0,hy2,C0,z0,q⟩:=fl
  cases z0
  rw [hst] at fly
  refine wpAny_looks_onW (I.ok.frames.trans (congrArg some hst)) hfr fly fun h1 held sm1=>?_
  refine wpAny_landsW held fun h2 fly2 sm2=>?_
  have cl : ∀ h',B.StaysIn h'→h2.UpToSlots h'→Inv X pins σc H2 { s' with heap:=h' }:=fun h' st sm=>by
   have c:=clo h' st ((sm1.trans sm2).trans sm)
   exact I1.call' (s':={ s' with heap:=h' }) hos c.1 c.2 hbare (fun b z=>nomatch z)
  have c2:=clo h2 fly2.1 (sm1.trans sm2)
  have I2:Inv X pins σc H2 { s' with heap:=h2 }:=I1.call' (s':={ s' with heap:=h2 }) hos c2.1 c2.2 hbare (fun b z=>nomatch z)
  exact hh pins { s' with heap:=h2 } σc H2 D y C B a0 fly2 I2 cl q
theorem zSd {D:Ends} {σ:St} {H:Hp} (σc:St) (h:tb σc (fun cls _ H2=>∃ C,cls = .ref C∧th C D σc H2) D σ H):zVh tb th D σ H:=⟨σc,h⟩
theorem r_Hc {D:Ends} {σ:St} {H:Hp} {K:W.Frag} {C:Addr} {b:Bool} (e:W.exmOne K (.ref C) (.ref C')=some b) (h:if b=true then ts D σ H else th C D σ H):tHc K C' ts th C D σ H:=⟨b,e,h⟩
end
section
variable {X : Cx} {pins0 : List (Addr × Obj)} {σc : St} {k n : Nat} {C : Addr} {ps : List Str} {sp : Sp} {E : XK} {x m : Str} {p np pos apos : Pos} {e o : Expr} {es : List Expr} {ta : TE} {t : TA}
def zSm (C:Addr) (m:Str) (sp:Sp) (E:XK) (σc:St) (ta:TE) (t:TA):TE:=fun σ H Q=>ta σ H (zSF C m (fun vs H Q E=>Wk σc σ∧sp vs H Q E) [] E t σ Q)
def zQW (sp:Sp) (E:XK) (σc:St) (t:TA):TE:=fun σ H Q=>t σ H fun vs H1=>Wk σc σ∧sp (vs++[]) H1 Q E
theorem zQH {pins : List (Addr × Obj)} {σ : St} {H : Hp} {s : Shared} {Q : VK} {us : List Value} {vs : List V} {f : Addr} {fd : FuncData} (F : FnOk X.prog X.w X.K X.mg X.base (CXE X.prog X.w) k f fd ps sp) (hr : Room k X.A) (hb : zB7 X.K fd ps [])
    (I : Inv (X.tr pins0 σc E) pins σ H s) (r : Vals vs us) (wk : Wk σc σ) (h : sp (vs ++ []) H Q E) : wpAny (model X.prog X.w) X.A (call (.ref f) us) (EP (X.tr pins0 σc E) pins σ Q) (X.tr pins0 σc E).xe s := by
  have r2 : Vals (vs ++ []) (us ++ []) := r.append .nil
  have hl : (us ++ []).length = ps.length := by rw [← r2.length]; exact F.len _ _ _ _ h
  have e0 : Env0 X.prog X.w X.K X.mg X.base X.A X.stack s H := I.env0
  refine wpAny_call (codeAny_mono (F.run X.A X.stack s H ⟨us, []⟩ (us ++ []) (vs ++ []) Q E hr e0 (hb s us I.kIn hl) r2 h) fun r s' hq => ?_)
  cases r with
  | error e => exact ⟨H, s, I.untr.weak wk.1 wk.2, hq⟩
  | ok fl =>
    cases fl with
    | ret u => exact I.after hq
    | next => exact False.elim hq
    | brk => exact False.elim hq
    | cont => exact False.elim hq
theorem zKs {pl:Sem Bool} (F:HasM X.prog X.w X.K X.mg X.base (CXE X.prog X.w) C m k ps sp) (c:Cls X.K C) (hr:Room n X.A) (he:PE (X.tr pins0 σc E) o ta) (ha:PA (X.tr pins0 σc E) (e::es) t) (hk:k≤n:=by decide)
  (hst:starEach (e::es) X.env=(false,eval e X.env)::starEach es X.env:=by rfl) (hpl:(backTo pos (starEach es X.env)).any (·.1)=false:=by rfl)
  (ht:eval (.Call (.Attribute o m apos) (e::es) [] pos) X.env=(do
   let ov ← eval o X.env
   standAt apos.atName
   let (f,first) ← holding [ov] (getMethod ov m pl)
   callWith pos f first (backTo pos (starEach (e::es) X.env)) (backToKw pos (keywordEach [] X.env))):=by rfl) :
  PE (X.tr pins0 σc E) (.Call (.Attribute o m apos) (e::es) [] pos) (zSm C m sp E σc ta t):=by
 intro pins s σ H Q I h
 obtain ⟨f,fd,G,M,b⟩:=F
 refine W.methodCall_KW (pl:=pl) (thn (he pins s σ H _ I h) fun u s1 ⟨x,H1,I1,rx,a,dx,fs,ex,ea,l,q⟩=>?_) ht
 subst ex
 obtain rfl:u=Value.ref a:=rx
 refine zIY I1 ea c M l ?_
 refine W.callWith_K (first:=[.ref a]) (h₀:=X.base) I.ok.mod.kin M.kp (thn (ha pos pins s1 σ H1 _ I1 q) fun us s2 ⟨vs,H2,I2,r,q2⟩=>⟨I2.kIn,?_⟩) hst hpl
 exact zQH (us:=.ref a::us) (vs:=.ref a::vs) (G.mono hk) hr b I2 (.cons rfl r) q2.1 q2.2
theorem zNt (F:HasX X.prog X.w X.K X.mg X.base x k ps sp) (hr:Room n X.A) (hg:Gl X x) (ha:PA (X.tr pins0 σc E) (e::es) t) (hk:k≤n:=by decide)
  (hdb:(x == ("__debug__" : Str))=false:=by decide) (he:starEach (e::es) X.env=(false,eval e X.env)::starEach es X.env:=by rfl) (hpl:(backTo pos (starEach es X.env)).any (·.1)=false:=by rfl) :
  PE (X.tr pins0 σc E) (.Call (.Name x p) (e::es) [] pos) (zQW sp E σc t):=by
 intro pins s σ H Q I h
 obtain ⟨f,fd,G,hm,kp,b⟩:=F
 refine wpAny_Call_Name_kw (zCq I hg hm ?_ hdb)
 refine W.callWith_K (h₀:=X.base) I.ok.mod.kin kp (thn (ha pos pins s σ H _ I h) fun us s1 ⟨vs,H1,I1,r,q⟩=>⟨I1.kIn,?_⟩) he hpl
 exact zQH (G.mono hk) hr b I1 r q.1 q.2
variable {σ : St} {H : Hp} {Q : VK}
theorem zTp (h:ta σ H (zSF C m (fun vs H Q E=>Wk σc σ∧sp vs H Q E) [] E t σ Q)):zSm C m sp E σc ta t σ H Q:=h
theorem zUJ (h:t σ H fun vs H1=>Wk σc σ∧sp (vs++[]) H1 Q E):zQW sp E σc t σ H Q:=h
theorem r_wk {R:Prop} (h:Wk σc σ) (q:R):Wk σc σ∧R:=⟨h,q⟩
end
section
variable {X : Cx} {tg : Expr}
def zLn (z:Str) (lo hi:Option Int) (st:Int):List Nat:=(Builtin.Str.strSliceIndices lo hi st z.length).filterMap ((Lt z)[·]?)
def rSl3:V→Option Int→Option Int→Int→Hp→VK→Prop:=fun x lo hi st H Q=>∃ z:Str,x = .str z∧st≠0∧z.length≤sizeLine∧(zLn z lo hi st).length≤sizeLine ∧ ∀ y,(y=T (zLn z lo hi st)∨(st=1∧y=z))→Q (.str y) H
def tSl3 (r:V→Option Int→Option Int→Int→Hp→VK→Prop) (te:TE) (tl th:TO) (ts:TE):TE:=fun σ H Q=>te σ H fun x H1=>tl σ H1 fun l H2=>th σ H2 fun u H3=>ts σ H3 fun s H4=>∃ i,s = .int i∧r x l u i H4 Q
theorem zPf {v:Value} {o:Option Int} (p:IsPart v o) : ∃ l:Option (Int × Tok),v=partValue l∧l.map (·.1)=o:=by
 cases p with
 | none=>exact ⟨none,rfl,rfl⟩
 | int i t=>exact ⟨some (i,t),rfl,rfl⟩
theorem zQs {e st:Expr} {lo hi:Option Expr} {te ts:TE} {tl th:TO} {p2 pos:Pos} (he:PE X e te) (hl:PO X lo tl) (hu:PO X hi th) (hs:PE X st ts):PE X (.Subscript e (.Slice lo hi (some st) p2) pos) (tSl3 rSl3 te tl th ts):=by
 intro pins s σ H Q I h
 refine Subscript_ (thn (he pins s σ H _ I h) fun v s1 ⟨x,H1,I1,r1,q1⟩=>?_)
 refine wpAny_Slice (thn (hl pins s1 σ H1 _ I1 q1) fun vl s2 ⟨l,H2,I2,pl,q2⟩=>thn (hu pins s2 σ H2 _ I2 q2) fun vu s3 ⟨u,H3,I3,pu,q3⟩=>?_)
 refine thn (hs pins s3 σ H3 _ I3 q3) fun vs s4 ⟨y,H4,I4,r4,i,ey,z,ex,hst,hz,hzp,q4⟩=>?_
 subst ey ex
 obtain ⟨t,rfl⟩:=r1
 obtain ⟨t4,rfl⟩:=r4
 obtain ⟨l',rfl,hl'⟩:=zPf pl
 obtain ⟨u',rfl,hu'⟩:=zPf pu
 have I5:Inv X pins σ H4 { s4 with heap:=s4.heap.push { cls:=.type "slice", data:=.fields #[partValue l',partValue u',.int i t4] } }:=I4.kept (t':=s4.toks) fun b ob q=>Heap.get?_push_of_some _ q
 show wpAny (model X.prog X.w) X.A (subscriptTail e (.Slice lo hi (some st) p2) (.str z t) (.ref s4.heap.objs.size)) (EP X pins σ Q) X.xe { s4 with heap:=s4.heap.push { cls:=.type "slice", data:=.fields #[partValue l',partValue u',.int i t4] } }
 refine tail_any (ops:=[.ref s4.heap.objs.size,.str z t]) (typeIs_str _ _ _) PySem.F.slot_str_getitem.lookup ?_ (by with_unfolding_all rfl)
 refine wpAny_getItem_str_slice (l:=l') (u:=u') (st:=some (i,t4)) ⟨_,Heap.get?_push_size _ rfl,rfl,rfl⟩ (by simpa using hst) ?_
 have e:slicePicked z l' u' (some (i,t4))=Builtin.Str.strSliceIndices l u i z.length:=by unfold slicePicked;rw [hl',hu'];rfl
 unfold sliceMade
 rw [e]
 have ep:(⟨((Builtin.Str.strSliceIndices l u i z.length).filterMap (z.cps[·]?)).toArray⟩:Str)=T (zLn z l u i):=by
  unfold zLn T;congr 3;funext k;simp [Lt]
 rw [ep]
 refine post_val_or_str ⟨?_,fun t' k=>⟨.str _,H4,I5.tok _,⟨t',rfl⟩,q4 _ ?_⟩⟩
 ·split
  ·exact hz
  ·exact hzp
 ·split
  ·rename_i hc
   rw [Bool.and_eq_true] at hc
   exact .inr ⟨by simpa using hc.1,rfl⟩
  ·exact .inl rfl
theorem zW6 {σ:St} {H:Hp} {Q:VK} {r:V→Option Int→Option Int→Int→Hp→VK→Prop} {te ts:TE} {tl th:TO} (h:te σ H fun x H1=>tl σ H1 fun l H2=>th σ H2 fun u H3=>ts σ H3 fun s H4=>∃ i,s = .int i∧r x l u i H4 Q):tSl3 r te tl th ts σ H Q:=h
theorem zLy {σ:St} {H:Hp} {Q:VK} {is:List Nat} {tt:TT} {te:TE} {j:Int} (h1 : -(2 ^ 62)≤j) (h2:j < 2 ^ 62) (hz:j.toNat≤sizeLine) (Pv:Nat→List V→Hp→Prop) (h0:Pv 0 [] H) (hl : ∀ i ys H,i≤j.toNat→Pv i ys H→ys.length≤i)
  (hs : ∀ i ys H,i < j.toNat→Pv i ys H→tt (some (.int (0+i))::is.map fun j=>(σ[j]?).getD none) H fun ok H2=>if ok=true then te (some (.int (0+i))::is.map fun j=>(σ[j]?).getD none) H2 fun y H3=>NxC j.toNat Pv i (ys++[y]) H3 else NxC j.toNat Pv i ys H2)
  (hd : ∀ ys H,Pv j.toNat ys H → ∀ p H',Same H H'→H p=none→H' p=some (.lst ys)→Q (.ref p) H'):zSp is tt te σ Q [.int j] H:=by
 refine ⟨j,rfl,h1,h2,fun i m ys H=>m=j.toNat - i∧i≤j.toNat∧Pv i ys H,⟨j.toNat,by simp,Nat.zero_le _,h0⟩,?_⟩
 rintro i m ys H ⟨rfl,hi,p⟩
 have ly:=hl i ys H hi p
 refine ⟨by omega,?_⟩
 by_cases hlt:i < j.toNat
 ·refine .inr ⟨hlt,by omega,fun x H' y=>?_⟩
  obtain ⟨e,y⟩:=y
  subst e y
  exact hs i ys _ hlt p
 ·have e:i=j.toNat:=by omega
  subst e
  exact .inl ⟨Nat.le_refl _,fun p' hp=>hd ys H p p' _ (zE7 hp _) hp zAU⟩
end
def zBw (K:W.Frag) (C:Addr):List Str→Prop
 | []=>True
 | f::r=>zGQ K C f∧zBw K C r
theorem zBw.at {K : W.Frag} {C : Addr} {f : Str} : ∀ {l : List Str}, zBw K C l → f ∈ l → zGQ K C f
  | [], _, h => by cases h
  | g :: r, n, h => by
    rcases List.mem_cons.mp h with rfl | h
    · exact n.1
    · exact n.2.at h
def bfs (wd:Int) (f:Nat) (x:Str) (st:Bool) (more:List (Str × V)):List (Str × V):=("width", .int wd)::("fill", .str (T [f]))::("side", .str x)::("strict", .bl st)::more
def bns:List Str:=["width", "fill", "side", "strict"]
structure zAZ (K:W.Frag) (H:Hp) (a C:Addr) (wd:Int) (f:Nat) (x:Str) (st:Bool) (more:List (Str × V)):Prop where
 at_ : ∃ dx,H a=some (.ins C dx (bfs wd f x st more))
 cl:Cls K C
 na:zBw K C (bns++more.map (·.1))
section
variable {K : W.Frag} {H H' : Hp} {a C : Addr} {wd : Int} {f : Nat} {x : Str} {st : Bool} {more : List (Str × V)} {g m : Str} {v : V}
theorem zAZ.same (s:Same H H') (F:zAZ K H a C wd f x st more):zAZ K H' a C wd f x st more:=⟨F.at_.imp fun _ e=>s _ _ e,F.cl,F.na⟩
theorem zQU:(bfs wd f x st more).lookup ("width" : Str)=some (.int wd):=zHP
theorem zRC:(bfs wd f x st more).lookup ("fill" : Str)=some (.str (T [f])):=(zBd (by decide +kernel)).trans zHP
theorem zRp:(bfs wd f x st more).lookup ("side" : Str)=some (.str x):=(zBd (by decide +kernel)).trans ((zBd (by decide +kernel)).trans zHP)
theorem zOT:(bfs wd f x st more).lookup ("strict" : Str)=some (.bl st):=(zBd (by decide +kernel)).trans ((zBd (by decide +kernel)).trans ((zBd (by decide +kernel)).trans zHP))
theorem zN0 (h:g ∉ bns):(bfs wd f x st more).lookup g=more.lookup g:=by
 simp only [bns,List.mem_cons,List.not_mem_nil,or_false,not_or] at h
 exact (zBd h.1).trans ((zBd h.2.1).trans ((zBd h.2.2.1).trans (zBd h.2.2.2)))
theorem zAZ.fld (F:zAZ K H a C wd f x st more) (n:g ∈ bns++more.map (·.1)) (l:(bfs wd f x st more).lookup g=some v):zEn K H a g v:=by
 obtain ⟨dx,e⟩:=F.at_
 exact ⟨C,dx,_,e,F.cl,F.na.at n,l⟩
theorem zAZ.width (F:zAZ K H a C wd f x st more):zEn K H a "width" (.int wd):=F.fld (List.mem_append_left _ (by decide +kernel)) zQU
theorem zAZ.fill (F:zAZ K H a C wd f x st more):zEn K H a "fill" (.str (T [f])):=F.fld (List.mem_append_left _ (by decide +kernel)) zRC
theorem zAZ.side (F:zAZ K H a C wd f x st more):zEn K H a "side" (.str x):=F.fld (List.mem_append_left _ (by decide +kernel)) zRp
theorem zAZ.strict (F:zAZ K H a C wd f x st more):zEn K H a "strict" (.bl st):=F.fld (List.mem_append_left _ (by decide +kernel)) zOT
theorem zAZ.own (F:zAZ K H a C wd f x st more) (h:g ∉ bns) (l:more.lookup g=some v) (n:g ∈ more.map (·.1)):zEn K H a g v:=F.fld (List.mem_append_right _ n) ((zN0 h).trans l)
theorem zAZ.meth (F:zAZ K H a C wd f x st more) (h:m ∉ bns) (l:more.lookup m=none):InsM H a C m:=by
 obtain ⟨dx,e⟩:=F.at_
 exact ⟨dx,_,e,(zN0 h).trans l⟩
theorem zD0 (h:g ∉ bns):putF g v (bfs wd f x st more)=bfs wd f x st (putF g v more):=by
 simp only [bns,List.mem_cons,List.not_mem_nil,or_false,not_or] at h
 unfold bfs
 rw [zAz (Ne.symm h.1),zAz (Ne.symm h.2.1),zAz (Ne.symm h.2.2.1),zAz (Ne.symm h.2.2.2)]
end
theorem zF3 {X:Cx} {K:W.Frag} {e:Expr} {f:Str} {pos:Pos} {ta:TE} (hK:X.K=K) (he:PE X e ta) (hb:attributeBase e f X.env (eval e X.env)=eval e X.env):PE X (.Attribute e f pos) (tFld K ta f):=hK ▸ zAg he hb
section
variable {X : Cx} {K : W.Frag} {σ : St} {H : Hp} {Q : VK} {is : List Nat} {tt : TT} {te : TE}
theorem zOI (bs:List Bool):((List.range bs.length).all fun i=>(bs[i]?).getD true)=bs.all id:=by
 rw [Bool.eq_iff_iff,List.all_eq_true,List.all_eq_true]
 constructor
 ·intro h b hb
  obtain ⟨i,hi,rfl⟩:=List.getElem_of_mem hb
  have:=h i (List.mem_range.mpr hi)
  simpa [List.getElem?_eq_getElem hi] using this
 ·intro h i hi
  have hi':=List.mem_range.mp hi
  have:=h _ (List.getElem_mem hi')
  simpa [List.getElem?_eq_getElem hi'] using this
def rAll (K:W.Frag):List V→Hp→VK→Prop:=fun xs H Q=>∃ (p:Addr) (bs:List Bool),xs=[.ref p]∧SqL K H p (bs.map V.bl)∧Q (.bl (bs.all id)) H
theorem zQa (hc:X.calm=true):zGH X (.builtin "all") (rAll X.K):=by
 intro pins s σ H xs us Q I r h
 obtain ⟨p,bs,rfl,hp,q⟩:=h
 obtain ⟨u,rfl,ru⟩:=r.one
 cases ru
 obtain ⟨its,ri,pl,hz⟩:=I.list hp
 have hl:=pl.isList
 have hlt:p < s.heap.objs.size:=by obtain ⟨_,e,_⟩:=hl;exact Heap.lt_size e
 have hlen:its.length=bs.length:=by have:=ri.length;rw [List.length_map] at this;exact this.symm
 refine call_all_walk (wpAny_pyIter_list hl ?_)
 refine ⟨s.heap.objs.size,[s.heap.objs.size,p],[s.heap.objs.size],its.toArray.size,_,_,fun i=>(bs[i]?).getD true,rfl,Walks.list (A:=X.A.in1) (I.ok.hd hc) _ p (Nat.ne_of_lt hlt) its.toArray,
  ⟨⟨_,Heap.get?_push_size _ rfl,rfl,rfl⟩,hl.push _⟩,fun i v s' Q' E' hP hQ=>?_,fun h' tk hk=>?_⟩
 ·have hP':its[i]? = some v:=by simpa using hP
  have hi:i < bs.length:=by
   rcases Nat.lt_or_ge i its.length with z | z
   ·omega
   ·rw [List.getElem?_eq_none z] at hP';cases hP'
  obtain ⟨u,hu,ru⟩:=ri.get (i:=i) (x:=.bl bs[i]) (by rw [List.getElem?_map,List.getElem?_eq_getElem hi];rfl)
  rw [hP'] at hu;cases hu
  cases ru
  simp only [List.getElem?_eq_getElem hi,Option.getD_some] at hQ
  exact wpAny_truthy_bool hQ
 ·have e:((List.range its.toArray.size).all fun i=>(bs[i]?).getD true)=bs.all id:=by
   rw [List.size_toArray,hlen];exact zOI bs
  rw [e]
  exact ⟨.bl _,H,I.kept fun b x eb=>hk b x (fun hm=>by rw [List.mem_singleton.mp hm] at eb;exact Nat.lt_irrefl _ (Heap.lt_size eb)) (Heap.get?_push_of_some _ eb),rfl,q⟩
theorem zW8 {p:Addr} {bs:List Bool} (h:SqL K H p (bs.map V.bl)) (q:Q (.bl (bs.all id)) H):rAll K [.ref p] H Q:=⟨p,bs,rfl,h,q⟩
theorem zWJ {c:Nat} {a:List Nat} (q:Q (.bl (decide (c ∈ a))) H):rInS (.str (T [c])) (.str (T a)) H Q:=zWA (by
 have e:=PySem.StrLaws.found_one (T a) c
 rw [show (T [c])=(⟨#[c]⟩:Str) from rfl,e];exact q)
theorem zWd:bootBuiltins "all" = some (.builtin "all"):=by decide +kernel
def zSv (is:List Nat) (tt:TT) (te:TE) (σ:St) (Q:VK) (x:V) (H:Hp):Prop:=∃ z:Str,x = .str z∧zQf is tt te σ Q (Its z) H
theorem zUX {tl:TE} (h:tl σ H (zSv is tt te σ Q)):zQp is (iStr tl) tt te σ H Q:=h
theorem zRH {a:List Nat} (hz:a.length≤sizeLine) (Pv:Nat→List V→Hp→Prop) (h0:Pv 0 [] H) (hl : ∀ i ys H,i≤a.length→Pv i ys H→ys.length≤i)
  (hs : ∀ i c ys H,a[i]? = some c→i < a.length→Pv i ys H→tt (some (.str (T [c]))::is.map fun j=>(σ[j]?).getD none) H fun ok H2=>if ok=true then te (some (.str (T [c]))::is.map fun j=>(σ[j]?).getD none) H2 fun y H3=>NxC a.length Pv i (ys++[y]) H3 else NxC a.length Pv i ys H2)
  (hd : ∀ ys H,Pv a.length ys H → ∀ p H',Same H H'→H' p=some (.lst ys)→Q (.ref p) H'):zSv is tt te σ Q (.str (T a)) H:=by
 refine ⟨T a,rfl,fun i m ys H=>m=a.length - i∧i≤a.length∧Pv i ys H,⟨a.length,by simp,Nat.zero_le _,h0⟩,?_⟩
 rintro i m ys H ⟨rfl,hi,p⟩
 have ly:=hl i ys H hi p
 refine ⟨by omega,?_⟩
 by_cases hlt:i < a.length
 ·refine .inr ⟨hlt,by omega,fun x H' y=>?_⟩
  obtain ⟨rfl,c,hc,rfl⟩:=y
  exact hs i c ys _ hc hlt p
 ·have e:i=a.length:=by omega
  subst e
  exact .inl ⟨rfl,fun p' hp=>hd ys H p p' _ (zE7 hp _) zAU⟩
end
mutual
inductive Dt (K:W.Frag) (H:Hp):V→PyData→Prop
 | non:Dt K H .non .none
 | bl (b:Bool):Dt K H (.bl b) (.bool b)
 | int (i:Int):Dt K H (.int i) (.int i)
 | str (z:Str):Dt K H (.str z) (.str z)
 | lst {p:Addr} {xs:List V} {ds:List PyData}:SqL K H p xs→Dts K H xs ds→Dt K H (.ref p) (.list ds)
 | tup {p:Addr} {xs:List V} {ds:List PyData}:SqT K H p xs→Dts K H xs ds→Dt K H (.ref p) (.tuple ds)
inductive Dts (K:W.Frag) (H:Hp):List V→List PyData→Prop
 | nil:Dts K H [] []
 | cons {x:V} {d:PyData} {xs:List V} {ds:List PyData}:Dt K H x d→Dts K H xs ds→Dts K H (x::xs) (d::ds)
end
section
variable {X : Cx} {pins : List (Addr × Obj)} {σ : St} {H H' : Hp} {s : Shared} {K : W.Frag} {Q : VK}
mutual
theorem zF0 (I : Inv X pins σ H s) : ∀ {x : V} {d : PyData} {u : Value}, Dt X.K H x d → RelV x u → ∃ as, Reads s.heap u d as
  | _, _, _, .non, r => by cases r; exact ⟨_, .none⟩
  | _, _, _, .bl b, r => by cases r; exact ⟨_, .bool b⟩
  | _, _, _, .int i, r => by obtain ⟨t, rfl⟩ := r; exact ⟨_, .int i t⟩
  | _, _, _, .str z, r => by obtain ⟨t, rfl⟩ := r; exact ⟨_, .str z t⟩
  | _, _, _, .lst h hs, r => by
    cases r
    obtain ⟨its, ri, pl, _⟩ := I.list h
    obtain ⟨as, q⟩ := zHd I hs ri
    obtain ⟨o, e, c, n, d⟩ := pl.isList
    exact ⟨_, .list e c d (by simpa using q)⟩
  | _, _, _, .tup h hs, r => by
    cases r
    obtain ⟨its, ri, pl, _⟩ := I.tuple h
    obtain ⟨as, q⟩ := zHd I hs ri
    obtain ⟨o, e, c, n, d⟩ := pl
    exact ⟨_, .tuple e c d (by simpa using q)⟩
theorem zHd (I : Inv X pins σ H s) : ∀ {xs : List V} {ds : List PyData} {us : List Value}, Dts X.K H xs ds → Vals xs us → ∃ as, ReadsAll s.heap us ds as
  | _, _, _, .nil, .nil => ⟨_, .nil⟩
  | _, _, _, .cons h hs, .cons r rs => by
    obtain ⟨as, q⟩ := zF0 I h r
    obtain ⟨bs, qs⟩ := zHd I hs rs
    exact ⟨_, .cons q qs⟩
end
mutual
theorem Dt.same (g:Same H H') : ∀ {x:V} {d:PyData},Dt K H x d→Dt K H' x d
 | _,_,.non=>.non
 | _,_,.bl b=>.bl b
 | _,_,.int i=>.int i
 | _,_,.str z=>.str z
 | _,_,.lst h hs=>.lst (g.seq h) (Dts.same g hs)
 | _,_,.tup h hs=>.tup (SqT.same h g) (Dts.same g hs)
theorem Dts.same (g:Same H H') : ∀ {xs:List V} {ds:List PyData},Dts K H xs ds→Dts K H' xs ds
 | _,_,.nil=>.nil
 | _,_,.cons h hs=>.cons (Dt.same g h) (Dts.same g hs)
end
def rEqD (K:W.Frag):R2:=fun x y H Q=>∃ d,Dt K H x d∧Dt K H y d∧d.canLay0=true∧d.depth≤20∧Q (.bl true) H
def rNeD (K:W.Frag):R2:=fun x y H Q=>∃ d,Dt K H x d∧Dt K H y d∧d.canLay0=true∧d.depth≤20∧Q (.bl false) H
theorem zNu (hu:X.A.units+20 < cLine):OpR X (compareOp .Eq) (rEqD X.K):=by
 intro pins s σ H x y v u Q I rx ry h
 obtain ⟨d,h1,h2,c,dp,q⟩:=h
 obtain ⟨as,r1⟩:=zF0 I h1 rx
 obtain ⟨bs,r2⟩:=zF0 I h2 ry
 refine SeqAt.compareEq_reads r1 r2 c c (by rw [Nat.min_self];omega) ⟨.bl _,H,I,rfl,?_⟩
 rw [SeqAt.eqv_refl d c];exact q
theorem zN8 (hu:X.A.units+20 < cLine):OpR X (compareOp .NotEq) (rNeD X.K):=by
 intro pins s σ H x y v u Q I rx ry h
 obtain ⟨d,h1,h2,c,dp,q⟩:=h
 obtain ⟨as,r1⟩:=zF0 I h1 rx
 obtain ⟨bs,r2⟩:=zF0 I h2 ry
 refine SeqAt.compareNe_reads r1 r2 c c (by rw [Nat.min_self];omega) ⟨.bl _,H,I,rfl,?_⟩
 rw [SeqAt.eqv_refl d c];exact q
theorem hu20 {A:Around} {k:Nat} (hr:Room k A):A.units+20 < cLine:=Nat.lt_of_le_of_lt (Nat.add_le_add_left (by decide:20≤64) _) hr.units
theorem zRr {x y:V} {d:PyData} (h1:Dt K H x d) (h2:Dt K H y d) (c:d.canLay0=true) (dp:d.depth≤20) (q:Q (.bl true) H):rEqD K x y H Q:=⟨d,h1,h2,c,dp,q⟩
theorem zR2 {x y:V} {d:PyData} (h1:Dt K H x d) (h2:Dt K H y d) (c:d.canLay0=true) (dp:d.depth≤20) (q:Q (.bl false) H):rNeD K x y H Q:=⟨d,h1,h2,c,dp,q⟩
end
end L2
namespace L2
open PySem PySem.Spec PyProof.Rows
section
variable {X : Cx} {H : Hp} {Q : VK} {K : W.Frag}
def zPT:V→List V→Hp→VK→Prop:=fun x vs H Q=>∃ (l:Addr) (zs:List Str) (z:Str) (j:Nat),x = .ref l∧vs=[.str z]∧H l=some (.lst (zs.map V.str))∧zs[j]? = some z∧(∀ m,m < j→zs[m]? ≠ some z)∧j < 1000∧Q (.int j) H
theorem zP5:MtM X "list.index" zPT:=by
 intro pins s σ H x vs v us Q I rx rv h
 obtain ⟨l,zs,z,j,rfl,rfl,hH,hj,hno,hj1,q⟩:=h
 cases rx
 obtain ⟨u,rfl,ru⟩:=rv.one
 obtain ⟨_,its,n,r,hl,e⟩:=I.lstM hH
 have fl:(zs.map V.str).all zKK=true:=by
  rw [List.all_eq_true];intro x hx
  obtain ⟨l,_,rfl⟩:=List.mem_map.mp hx
  rfl
 have it : ∀ (m:Nat) (hm:m < its.toArray.size),∃ (y:Str) (t:Tok),zs[m]? = some y∧its.toArray[m] = .str y t:=fun m hm=>by
  have hm':m < its.length:=by simpa using hm
  have hz:m < zs.length:=by have:=r.length;rw [List.length_map] at this;omega
  obtain ⟨w,hw,rw'⟩:=r.get (i:=m) (x:=.str zs[m]) (by rw [List.getElem?_map,List.getElem?_eq_getElem hz];rfl)
  obtain ⟨t,rfl⟩:=rw'
  refine ⟨zs[m],t,List.getElem?_eq_getElem hz,?_⟩
  rw [List.getElem?_eq_getElem hm'] at hw
  simpa using Option.some.inj hw
 have hjz:j < its.toArray.size:=by
  have:=r.length;rw [List.length_map] at this
  rcases Nat.lt_or_ge j zs.length with z1 | z1
  ·simp;omega
  ·rw [List.getElem?_eq_none z1] at hj;cases hj
 refine call_meets F.slot_list_index ⟨_,e,rfl⟩ F.entry_list_index (F.args_list_index_2 _ _) (SeqAt.list_indexAt l its.toArray n none #[] u (eqU (.str z)) j hjz (by omega) ?_ fun m hm hmj=>?_) ⟨e,fun y hy=>zHE ru rfl r fl y (by simpa using hy),⟨.int j,H,I.tok _,⟨_,rfl⟩,q⟩⟩
 ·obtain ⟨y,t,h1,h2⟩:=it j hjz
  rw [hj] at h1;cases h1
  rw [h2]
  show (z == z)=true
  simp
 ·obtain ⟨y,t,h1,h2⟩:=it m hm
  rw [h2]
  show (y == z)=false
  simpa using fun ee=>hno m hmj (by rw [h1,ee])
theorem zSJ {l:Addr} {zs:List Str} {z:Str} (j:Nat) (h:H l=some (.lst (zs.map V.str))) (hj:zs[j]? = some z) (hno : ∀ m,m < j→zs[m]? ≠ some z) (hj1:j < 1000) (q:Q (.int j) H):zPT (.ref l) [.str z] H Q:=⟨l,zs,z,j,rfl,rfl,h,hj,hno,hj1,q⟩
end
def RsA (H:Hp) (v:V) (d:PyData):Prop:=(∃ z:Str,v = .str z∧d = .str z) ∨ ∃ (q:Addr) (z:Str),v = .ref q∧H q=some (.tup [.str z])∧d = .tuple [.str z]
section
variable {H H' : Hp} {v : V} {d : PyData} {K : W.Frag}
theorem RsA.same (g:Same H H') (h:RsA H v d):RsA H' v d:=by
 rcases h with ⟨z,a,b⟩ | ⟨q,z,a,e,b⟩
 ·exact .inl ⟨z,a,b⟩
 ·exact .inr ⟨q,z,a,g _ _ e,b⟩
theorem RsA.put {p:Addr} {xs ys:List V} (hp:H p=some (.lst xs)) (h:RsA H v d):RsA (upd H p (.lst ys)) v d:=by
 rcases h with ⟨z,a,b⟩ | ⟨q,z,a,e,b⟩
 ·exact .inl ⟨z,a,b⟩
 ·exact .inr ⟨q,z,a,by rw [zBV (zXB e hp (by intro z;cases z))];exact e,b⟩
end
theorem ok_T {l:List Nat} (h:Asc l):PyData.strOk (T l)=true:=by
 unfold PyData.strOk
 show (l.toArray.all fun c=>decide (c < 0x110000))=true
 rw [Array.all_eq_true_iff_forall_mem]
 intro c hc
 have:=h c (by simpa using hc)
 exact decide_eq_true (by omega)
theorem zO8 {a:List Nat} {s st:Int} (h0:0≤s) (h1:s < a.length) (h2:1≤st):zLn (T a) (some s) none st≠[]∧(∀ c ∈ zLn (T a) (some s) none st,c ∈ a)∧((zLn (T a) (some s) none st).length:Int)≤a.length+st:=by
 have e:Builtin.Str.strSliceIndices (some s) none st (T a).length=(List.range (((a.length:Int) - s+st - 1) / st).toNat).map fun k:Nat=>(s+st*(k:Int)).toNat:=by
  have l:((T a).length:Int)=a.length:=rfl
  unfold Builtin.Str.strSliceIndices
  dsimp only
  rw [l,if_neg (show ¬ s < 0 by omega),if_pos (show st > 0 by omega),if_pos (show st > 0 by omega),Int.min_eq_left (by omega),Int.max_eq_right h0]
  unfold sliceRange
  rw [if_pos (show st > 0 by omega),if_pos h1]
 have hc:1≤((a.length:Int) - s+st - 1) / st:=Int.le_ediv_of_mul_le (by omega) (by omega)
 have hc2:((a.length:Int) - s+st - 1) / st≤(a.length:Int) - s+st - 1:=Int.ediv_le_self _ (by omega)
 unfold zLn
 rw [e,Lt_T]
 refine ⟨fun z=>?_,fun c hcm=>?_,?_⟩
 ·rw [List.filterMap_eq_nil_iff] at z
  have:=z (s+st*((0:Nat):Int)).toNat (List.mem_map.mpr ⟨0,List.mem_range.mpr (by omega),rfl⟩)
  rw [show (s+st*((0:Nat):Int)).toNat=s.toNat by simp,List.getElem?_eq_getElem (by omega)] at this
  cases this
 ·obtain ⟨i,_,hi⟩:=List.mem_filterMap.mp hcm
  exact List.mem_of_getElem? hi
 ·have:=List.length_filterMap_le (fun x=>a[x]?) ((List.range (((a.length:Int) - s+st - 1) / st).toNat).map fun k:Nat=>(s+st*(k:Int)).toNat)
  rw [List.length_map,List.length_range] at this
  omega
theorem zJj {X:Cx} {x:Str} {k n:Nat} {ps:List Str} {sp:Sp} {p pos:Pos} (F:Has X.prog X.w X.K X.mg X.base x k ps sp) (hr:Room n X.A) (hg:Gl X x) (hk:k≤n:=by decide) (hdb:(x == ("__debug__" : Str))=false:=by decide) :
  PE X (.Call (.Name x p) [] [] pos) (zMm sp [] E0 tNil):=by
 obtain ⟨f,fd,G,hm,kp,hb⟩:=F
 exact zRs G (hr.mono hk) hg hm kp hb .nil zBn hdb
section
variable {X : Cx} {pos : Pos}
def zU5 (i j k:Nat) (ta:TA):TS:=fun D σ H=>ta σ H fun vs H1=>∃ v1 v2 v3,vs=[v1,v2,v3]∧D.nx (((σ.set k (some v3)).set j (some v2)).set i (some v1)) H1
theorem zTq {i j k : Nat} {x y z : Str} {a b c : Expr} {ta : TA} {px py pz pt : Pos} {kt k2 pt2} (hc : X.calm = true) (hN : X.N.Nodup) (hi : X.N[i]? = some x) (hj : X.N[j]? = some y) (hk : X.N[k]? = some z)
    (hx : X.env.scope.names.lookup x = some .local) (hy : X.env.scope.names.lookup y = some .local) (hz : X.env.scope.names.lookup z = some .local) (ha : PA X [a, b, c] ta)
    (hw : swappedStores [.Tuple [.Name x px, .Name y py, .Name z pz] kt pt] (.Tuple [a, b, c] k2 pt2) X.env = pure (some [x, y, z]))
    (hs : swapsWithSole [.Tuple [.Name x px, .Name y py, .Name z pz] kt pt] (.Tuple [a, b, c] k2 pt2) pos.line X.env = pure false := by rfl) :
    PS X (.Assign [.Tuple [.Name x px, .Name y py, .Name z pz] kt pt] (.Tuple [a, b, c] k2 pt2) pos) (zU5 i j k ta) := by
  intro pins s σ H D I h
  rw [exec_Assign_arm]
  refine wpAny_bind (wpAny_standAt ?_)
  rw [hs]
  refine wpAny_bind (wpAny_pure ?_)
  rw [if_neg (by decide)]
  refine wpAny_bind (Tuple_ (thn (ha _ pins s σ H _ I h) fun us s1 ⟨vs, H1, I1, r1, q1⟩ => ?_))
  obtain ⟨v1, v2, v3, e1, q1⟩ := q1
  subst e1
  obtain ⟨u1, u2, u3, rfl, rv1, rv2, rv3⟩ : ∃ u1 u2 u3, us = [u1, u2, u3] ∧ RelV v1 u1 ∧ RelV v2 u2 ∧ RelV v3 u3 := by
    cases r1 with
    | cons p q =>
      cases q with
      | cons p' q' =>
        cases q' with
        | cons p'' q'' =>
          cases q''
          exact ⟨_, _, _, rfl, p, p', p''⟩
  refine wpAny_newObj_type ?_ (by show 3 ≤ sizeLine; decide)
  have I2 : Inv X pins σ H1 { s1 with heap := s1.heap.push { cls := .type "tuple", data := .seq [u1, u2, u3].toArray } } := I1.kept (t' := s1.toks) fun b o e => Heap.get?_push_of_some _ e
  rw [hw]
  refine wpAny_bind (wpAny_pure ?_)
  show wpAny (model X.prog X.w) X.A (do rule "assign.swapped-stores"; let items ← unpackItems (.ref s1.heap.objs.size) 3 none; assignInOrder [fun v => bindName X.env z v, fun v => bindName X.env y v, fun v => bindName X.env x v] items.reverse; pure Flow.next) _ _ _
  refine wpAny_bind (wpAny_rule (wpAny_bind (unpackItems_tuple (items := #[u1, u2, u3]) (I.ok.hd hc) (IsTup.new s1.heap _) fun h' hx' => ?_)))
  have I3 := I2.kept (h' := h') (t' := s1.toks) fun b o e => hx' b o (Nat.ne_of_lt (Heap.lt_size e)) e
  show wpAny _ _ (assignInOrder [fun v => bindName X.env z v, fun v => bindName X.env y v, fun v => bindName X.env x v] [u3, u2, u1] >>= fun _ => pure Flow.next) _ _ _
  refine wpAny_bind (assignInOrder_cons (wpAny_bindName (zFq I3 hN hk (.inl hz) rv3 (fun s2 I4 => ?_) (.inr hz))))
  refine assignInOrder_cons (wpAny_bindName (zFq I4 hN hj (.inl hy) rv2 (fun s3 I5 => ?_) (.inr hy)))
  refine assignInOrder_cons (wpAny_bindName (zFq I5 hN hi (.inl hx) rv1 (fun s4 I6 => assignInOrder_nil (wpAny_pure ?_)) (.inr hx)))
  exact ⟨_, H1, I6, q1⟩
def zVR (i j k:Nat) (D:Ends) (σ:St) (vs:List V) (H1:Hp):Prop:=∃ v1 v2 v3,vs=[v1,v2,v3]∧D.nx (((σ.set k (some v3)).set j (some v2)).set i (some v1)) H1
theorem zU9 {i j k:Nat} {ta:TA} {D:Ends} {σ:St} {H:Hp} (h:ta σ H (zVR i j k D σ)):zU5 i j k ta D σ H:=h
theorem zUi {i j k:Nat} {D:Ends} {σ:St} {H:Hp} {v1 v2 v3:V} (h:D.nx (((σ.set k (some v3)).set j (some v2)).set i (some v1)) H):zVR i j k D σ [v1,v2,v3] H:=⟨v1,v2,v3,rfl,h⟩
end
def low (b:Nat):Nat→Nat→List Nat
 | 0,_=>[]
 | p+1,n=>low b p (n / b)++[fc (n % b)]
theorem zPN (b:Nat) : ∀ p n,(low b p n).length=p
 | 0,_=>rfl
 | p+1,n=>by unfold low;rw [List.length_append,zPN b p];rfl
theorem fc0:fc 0=48:=by decide +kernel
theorem zLC {b n:Nat} (h2:2≤b):1≤(figs b n).length:=by
 rcases Nat.lt_or_ge n b with h | h
 ·rw [zDQ h,List.length_singleton];exact Nat.le_refl _
 ·rw [zHb h2 h,List.length_append,List.length_singleton];omega
theorem zRM {b p n:Nat} (h2:2≤b):dgs b (p+1) n=dgs b p (n / b)++[fc (n % b)]:=by
 unfold dgs
 rcases Nat.lt_or_ge n b with h | h
 ·rw [zDQ h,Nat.div_eq_of_lt h,zDQ (by omega),Nat.mod_eq_of_lt h,fc0]
  rw [List.length_singleton,List.length_singleton,show p+1+1 - 1=p+1 by omega,show p+1 - 1=p by omega,List.replicate_succ']
 ·rw [zHb h2 h,List.length_append,List.length_singleton,show p+1+1 - ((figs b (n / b)).length+1)=p+1 - (figs b (n / b)).length by omega,List.append_assoc]
theorem zQG {b : Nat} (h2 : 2 ≤ b) : ∀ p n, dgs b p n = figs b (n / b ^ p) ++ low b p n
  | 0, n => by
    have := zLC (b := b) (n := n) h2
    unfold dgs low
    rw [show 0 + 1 - (figs b n).length = 0 by omega, Nat.pow_zero, Nat.div_one, List.append_nil]; rfl
  | p + 1, n => by
    rw [zRM h2, zQG h2 p, Nat.div_div_eq_div_mul, Nat.pow_succ, Nat.mul_comm (b ^ p) b, List.append_assoc]; rfl
theorem zQD {b p n:Nat} (h2:2≤b):whl b p n=figs b (n / b ^ p)∧rst b p n=low b p n:=by
 have l:=zPN b p n
 unfold whl rst
 rw [zQG h2,List.length_append,l,Nat.add_sub_cancel]
 exact ⟨List.take_left' rfl,List.drop_left' rfl⟩
def pz (b p r:Nat):List Nat:=List.replicate (p - (figs b r).length) 48++figs b r
theorem zTN {b p r:Nat} (h2:2≤b) (hp:0 < p):pz b (p+1) r=pz b p (r / b)++[fc (r % b)]:=by
 unfold pz
 rcases Nat.lt_or_ge r b with h | h
 ·rw [zDQ h,Nat.div_eq_of_lt h,zDQ (by omega),Nat.mod_eq_of_lt h,fc0]
  obtain ⟨q,rfl⟩ : ∃ q,p=q+1:=⟨p - 1,by omega⟩
  rw [List.length_singleton,List.length_singleton,show q+1+1 - 1=q+1 by omega,show q+1 - 1=q by omega,List.replicate_succ']
 ·rw [zHb h2 h,List.length_append,List.length_singleton,show p+1 - ((figs b (r / b)).length+1)=p - (figs b (r / b)).length by omega,List.append_assoc]
theorem zQw {b : Nat} (h2 : 2 ≤ b) : ∀ p n, low b p n = low b p (n % b ^ p)
  | 0, n => rfl
  | p + 1, n => by
    unfold low
    rw [zQw h2 p (n / b)]
    have e1 : n % b ^ (p + 1) / b = n / b % b ^ p := by rw [Nat.pow_succ, Nat.mul_comm, Nat.mod_mul_right_div_self]
    have e2 : n % b ^ (p + 1) % b = n % b := Nat.mod_mod_of_dvd n (by rw [Nat.pow_succ]; exact Nat.dvd_mul_left b (b ^ p))
    rw [e1, e2]
theorem zSS {b : Nat} (h2 : 2 ≤ b) : ∀ p r, 0 < p → r < b ^ p → low b p r = pz b p r
  | 1, r, _, h => by
    rw [Nat.pow_one] at h
    unfold low pz low
    rw [zDQ h, Nat.mod_eq_of_lt h]; rfl
  | p + 2, r, _, h => by
    rw [zTN h2 (by omega), ← zSS h2 (p + 1) (r / b) (by omega) (Nat.div_lt_of_lt_mul (by rw [Nat.pow_succ, Nat.mul_comm] at h; exact h))]
    rfl
theorem zUe {b p pt z m n:Nat} (h2:2≤b):bdy b p pt z m n=if p=0 then gr z m (figs b (n / b ^ p)) else gr z m (figs b (n / b ^ p))++[pt]++pz b p (n % b ^ p):=by
 unfold bdy
 rw [(zQD h2).1,(zQD h2).2]
 split
 ·rfl
 ·rename_i hp
  rw [zQw h2,zSS h2 p _ (by omega) (Nat.mod_lt _ (Nat.pow_pos (by omega)))]
theorem zIc {K:W.Frag} {fd:FuncData} {ps:List Str} {t:Addr} {oc:Value} {od:Option Addr} {it:Array Value} {n:Nat} {osl:Array (Option Value)} (hl:K.lookup t=some ⟨oc,od,.seq it n,osl⟩) (hd:fd.defaults = .ref t)
  (h : ∀ us:List Value,us.length=ps.length → ∃ k,bindArgs fd ⟨us,[]⟩=seqItems? fd.defaults >>= k∧k (some it)=pure (ps.zip us)):zB7 K fd ps []:=fun s us hK hlen=>by
 rw [List.append_nil] at hlen ⊢
 obtain ⟨k,h1,h2⟩:=h us hlen
 exact .of_defaults hd (hK _ _ hl) rfl h1 h2
set_option maxHeartbeats 1000000
def C2 (h:Heap) (e:Addr):Prop:=∃ o vs,h.get? e=some o∧o.data = .fields vs∧vs[2]? = some .none
theorem zGF {h:Heap} {e b:Addr} {oe o:Obj} {vs:Array Value} (a:h.get? e=some oe) (d:oe.data = .fields vs) (q:h.get? b=some o) (n : ∀ us,o.data ≠ .fields us):b≠e:=by
 rintro rfl
 rw [a] at q
 cases q
 exact n vs d
theorem zOq {base h g:Heap} {l:List Env} {e:Addr} {oe ob:Obj} {vs ts:Array Value} {a0 fl:Value} (FF:h.FunFrames base l) (sg:Heap.SlotsOnly (l.filterMap (·.frame)) h g) (a1:h.get? e=some oe)
  (a2:base.StaysIn h) (a3:base.get? e=none) (a4:oe.data = .fields vs) (a5:1 < vs.size) (a6:vs[0]? = some a0) (a7:vs[2]? = some .none) (b1:ob.data = .fields ts) (b2:ts[3]? = some fl) :
  Heap.NotedW base l e oe.cls a0 fl h ((g.push ob).update e (Obj.mapFields (·.setIfInBounds 1 (Value.ref g.objs.size))))∧C2 ((g.push ob).update e (Obj.mapFields (·.setIfInBounds 1 (Value.ref g.objs.size)))) e:=by
 have nf:e ∉ l.filterMap (·.frame):=fun m=>by
  obtain ⟨_,o,q,n⟩:=FF.mem m
  exact zGF a1 a4 q n rfl
 have g1:g.get? e=some oe:=(sg.2.1 e nf).trans a1
 have ne:g.objs.size≠e:=fun z=>Nat.lt_irrefl _ (z ▸ Heap.lt_size g1)
 have d1:(Obj.mapFields (·.setIfInBounds 1 (Value.ref g.objs.size)) oe).data=_:=Obj.data_mapFields a4 _
 have self:((g.push ob).update e (Obj.mapFields (·.setIfInBounds 1 (Value.ref g.objs.size)))).get? e=some (Obj.mapFields (·.setIfInBounds 1 (Value.ref g.objs.size)) oe):=
  Heap.get?_update_self _ (Heap.get?_push_of_some _ g1) (Obj.isFreed_of_fields d1)
 have kp : ∀ {b:Addr} {o:Obj},b≠e→g.get? b=some o→((g.push ob).update e (Obj.mapFields (·.setIfInBounds 1 (Value.ref g.objs.size)))).get? b=some o:=fun {b o} n q=>by
  rw [Heap.get?_update_other _ _ (Ne.symm n)];exact Heap.get?_push_of_some _ q
 have new:((g.push ob).update e (Obj.mapFields (·.setIfInBounds 1 (Value.ref g.objs.size)))).get? g.objs.size=some ob:=by
  rw [Heap.get?_update_other _ _ (Ne.symm ne)];exact Heap.get?_push_size g (Obj.isFreed_of_fields b1)
 have bg:base.StaysIn g:=fun b o q=>(sg.2.1 b fun m=>by rw [(FF.mem m).1] at q;cases q).trans (a2 b o q)
 have oth : ∀ b o,h.get? b=some o→(∀ us,o.data ≠ .fields us) → ∃ sl,((g.push ob).update e (Obj.mapFields (·.setIfInBounds 1 (Value.ref g.objs.size)))).get? b=some { o with slots:=sl }:=fun b o q n=>by
  obtain ⟨sl,q1⟩:=sg.2.2 b o q
  exact ⟨sl,kp (zGF a1 a4 q n) q1⟩
 refine ⟨⟨fun b o q=>kp (fun z=>by rw [z,a3] at q;cases q) (bg b o q),FF.of_keeps fun b o q n=>?_,⟨_,_,g.objs.size,ob,ts,self,⟨Obj.cls_mapFields _ _,?_⟩,d1,?_,?_,ne,new,b1,b2⟩,oth⟩,⟨_,_,self,d1,?_⟩⟩
 ·obtain ⟨sl,q1⟩:=oth b o q n
  exact ⟨_,q1,rfl⟩
 ·rw [Array.getElem?_setIfInBounds_ne (by decide)];exact a6
 ·rw [Array.getElem?_setIfInBounds_self_of_lt a5]
 ·cases z:base.get? g.objs.size with
  | none=>rfl
  | some o=>exact absurd (Heap.lt_size (bg _ o z)) (Nat.lt_irrefl _)
 ·rw [Array.getElem?_setIfInBounds_ne (by decide)];exact a7
section
variable {M : Model} {A : Around} {E : Value → Shared → Prop} {s : Shared} {base : Heap} {env : Env} {outer : List Env} {L e : Addr} {Q : Unit → Shared → Prop}
theorem zSw {oe:Obj} {vs:Array Value} {head a0:Value} {hadNext:Bool} (fr:A.frames=some (env::outer)) (FF:s.heap.FunFrames base (env::outer)) (ef:env.frame=some L) (a1:s.heap.get? e=some oe)
  (a2:base.StaysIn s.heap) (a3:base.get? e=none) (a4:oe.data = .fields vs) (a5:1 < vs.size) (a6:vs[0]? = some a0) (a7:vs[2]? = some .none)
  (k : ∀ h',Heap.NotedW base (env::outer) e oe.cls a0 (rawInt L) s.heap h'→C2 h' e→Q () { s with heap:=h' }) :
  wpAny M A (do let a ← frameOf env;let pl ← entryPlaceOf L hadNext;let b ← EntryCells.newEntry head a .none (rawInt L) .none pl;setField (.ref e) 1 b) Q E s:=by
 have nf:e ∉ (env::outer).filterMap (·.frame):=fun m=>by
  obtain ⟨_,o,q,n⟩:=FF.mem m
  exact zGF a1 a4 q n rfl
 refine wpAny_bind (wpAny_frameOf_fun fr FF ef fun g sg=>wpAny_bind (wpAny_entryPlaceOf fun pl ip=>?_))
 unfold EntryCells.newEntry newFields
 refine wpAny_bind (wpAny_newObj_type (wpAny_setField (Heap.get?_push_of_some _ ((sg.2.1 e nf).trans a1)) a4 a5 ?_) (ip.sizeOk5 _ _ _ _ _))
 have nh:=zOq (ob:={ cls:=.type "traceback", dict:=none,data:=.fields ([head,.ref L,.none,rawInt L,.none]++(if pl.isEmpty then List.replicate 6 Value.none else pl)).toArray }) FF sg a1 a2 a3 a4 a5 a6 a7 rfl (fl:=rawInt L) (by simp)
 exact k _ nh.1 nh.2
theorem zMu {l:List Env} {cls a0 fl:Value} (a2:base.StaysIn s.heap) (FF:s.heap.FunFrames base l) (tr:s.heap.TracedAtW base e cls a0 fl) (c2:C2 s.heap e)
  (k : ∀ h',base.StaysIn h'→h'.FunFrames base l→h'.TracedW base e cls a0→C2 h' e→s.heap.UpToSlots h'→Q () { s with heap:=h' }):wpAny M A (setFlight (.ref e) none) Q E s:=by
 obtain ⟨oe,vs,t,ot,ts,q1,q2,q3,q4,q5,q6,q7,q8,q9⟩:=tr
 obtain ⟨o',us,c1,c3,c4⟩:=c2
 rw [q1] at c1
 cases c1
 rw [q3] at c3
 cases c3
 unfold setFlight
 refine wpAny_bind (wpAny_field q1 q3 q4 ?_)
 have nn:(Value.ref t != Value.none)=true:=by simp
 rw [if_pos nn]
 have lt3:=(Array.getElem?_eq_some_iff.mp q9).1
 have ot' : ∀ {b:Addr},b≠t→(s.heap.update t (Obj.mapFields (·.setIfInBounds 3 ((none:Option Addr).elim Value.none fun f=>rawInt f)))).get? b=s.heap.get? b:=fun {b} n=>Heap.get?_update_other _ _ (Ne.symm n)
 have df:=Obj.data_mapFields q8 (·.setIfInBounds 3 ((none:Option Addr).elim Value.none fun f=>rawInt f))
 refine wpAny_setField q7 q8 lt3 (k _ (fun b o q=>(ot' fun z=>by rw [z,q5] at q;cases q).trans (a2 b o q)) (FF.of_keeps fun b o q n=>⟨o,(ot' (zGF q7 q8 q n)).trans q,rfl⟩)
  ⟨oe,vs,t,_,_,(ot' (Ne.symm q6)).trans q1,q2,q3,q4,q5,q6,Heap.get?_update_self _ q7 (Obj.isFreed_of_fields df),df,?_⟩ ⟨oe,vs,(ot' (Ne.symm q6)).trans q1,q3,c4⟩ fun b o q n=>⟨o.slots,(ot' (zGF q7 q8 q n)).trans q⟩)
 rw [Array.getElem?_setIfInBounds_self_of_lt lt3];rfl
theorem zMH {h:Heap} {cls:Value} {args:List Value} (fr:A.frames=some (env::outer)) (ef:env.frame=some L) (a2:base.StaysIn h) (FF:h.FunFrames base (env::outer)) (mk:Heap.MadeExcOf h s.heap e cls args)
  (k : ∀ h' a0,Heap.FlyingW base outer e cls a0 h'→C2 h' e→s.heap.UpToSlots h'→Q () { s with heap:=h' }):wpAny M A (leaving env (.ref e)) Q E s:=by
 obtain ⟨t,m1,m2,m3⟩:=mk.there
 have out:base.get? e=none:=by
  cases z:base.get? e with
  | none=>rfl
  | some o=>have:=a2 e o z;rw [mk.new] at this;cases this
 have FF1:s.heap.FunFrames base (env::outer):=FF.of_keeps fun b o q _=>⟨o,mk.keeps b o q,rfl⟩
 unfold leaving noteFrame
 simp only [ef]
 refine wpAny_bind (wpAny_bind (wpAny_field m1 rfl (x:=.none) rfl ?_))
 have nn : ¬ ((Value.none != Value.none)=true):=by decide
 rw [if_neg nn]
 refine zSw fr FF1 ef m1 (fun b o q=>mk.keeps b o (a2 b o q)) out rfl (by show 1 < 6;decide) (a0:=.ref t) rfl rfl fun h1 nd c1=>?_
 obtain ⟨n1,n2,n3,n4⟩:=nd
 exact zMu (s:={ s with heap:=h1 }) n1 n2 n3 c1 fun h2 w1 w2 w3 w4 w5=>k h2 _ ⟨w1,out,w2.2.2,w3⟩ w4 (Heap.UpToSlots.trans (h₂:=h1) n4 w5)
theorem zVL {cls a0:Value} (fr:A.frames=some (env::outer)) (ef:env.frame=some L) (fly:Heap.FlyingW base (env::outer) e cls a0 s.heap) (c2:C2 s.heap e)
  (k : ∀ h',Heap.HeldW base (env::outer) e cls a0 L h'→C2 h' e→s.heap.UpToSlots h'→Q () { s with heap:=h' }):wpAny M A (noteFrame (.ref e) env) Q E s:=by
 obtain ⟨f1,f2,f3,oe,vs,t,ot,ts,q1,⟨q2,q2'⟩,q3,q4,q5,q6,q7,q8,q9⟩:=fly
 obtain ⟨o',us,c1,c3,c4⟩:=c2
 rw [q1] at c1
 cases c1
 rw [q3] at c3
 cases c3
 subst q2
 unfold noteFrame
 simp only [ef]
 refine wpAny_bind (wpAny_field q1 q3 q4 ?_)
 have nn:(Value.ref t != Value.none)=true:=by simp
 have n3 : ¬ ((Value.none == rawInt L)=true):=by simp [rawInt]
 rw [if_pos nn]
 refine wpAny_bind (wpAny_field q7 q8 q9 ?_)
 rw [if_neg n3]
 have ot' : ∀ {b:Addr},b≠t→(s.heap.update t (Obj.mapFields (·.setIfInBounds 3 Value.none))).get? b=s.heap.get? b:=fun {b} n=>Heap.get?_update_other _ _ (Ne.symm n)
 refine wpAny_bind (wpAny_setField q7 q8 (Array.getElem?_eq_some_iff.mp q9).1 ?_)
 refine zSw fr (f3.of_keeps fun b o q n=>⟨o,(ot' (zGF q7 q8 q n)).trans q,rfl⟩) ef ((ot' (Ne.symm q6)).trans q1) (fun b o q=>(ot' fun z=>by rw [z,q5] at q;cases q).trans (f1 b o q)) f2 q3 (Array.getElem?_eq_some_iff.mp q4).1 q2' c4 fun h1 nd cc=>?_
 exact k h1 ⟨nd.1,f2,nd.2.1,nd.2.2.1⟩ cc fun b o q n=>nd.2.2.2 b o ((ot' (zGF q7 q8 q n)).trans q) n
theorem zWY {l:List Env} {cls a0:Value} (hd:Heap.HeldW base l e cls a0 L s.heap) (c2:C2 s.heap e)
  (k : ∀ h',Heap.FlyingW base l e cls a0 h'→C2 h' e→s.heap.UpToSlots h'→Q () { s with heap:=h' }):wpAny M A (setFlight (.ref e) none) Q E s:=
 zMu hd.1 hd.2.2.1 hd.2.2.2 c2 fun h' w1 w2 w3 w4 w5=>k h' ⟨w1,hd.2.1,w2,w3⟩ w4 w5
theorem zT3 {l:List Env} {cls a0:Value} (fl:Heap.FlyingW base l e cls a0 s.heap) (c2:C2 s.heap e)
  (k : ∀ h',Heap.FlyingW base l e cls a0 h'→C2 h' e→s.heap.UpToSlots h'→Q () { s with heap:=h' }):wpAny M A (setFlight (.ref e) none) Q E s:=
 zMu fl.1 fl.2.2.1 fl.2.2.2.at c2 fun h' w1 w2 w3 w4 w5=>k h' ⟨w1,fl.2.1,w2,w3⟩ w4 w5
theorem zON {oe:Obj} {vs:Array Value} {a0:Value} (fr:A.frames=some (env::outer)) (ef:env.frame=some L) (a1:s.heap.get? e=some oe) (a2:base.StaysIn s.heap) (FF:s.heap.FunFrames base (env::outer)) (a3:base.get? e=none)
  (a4:oe.data = .fields vs) (a5:vs[1]? = some .none) (a6:vs[0]? = some a0) (k : ∀ h',Heap.FlyingW base outer e oe.cls a0 h'→s.heap.UpToSlots h'→Q () { s with heap:=h' }):wpAny M A (leaving env (.ref e)) Q E s:=
 wpAny_leaving_firstW fr FF ef a1 a2 a3 a4 a5 a6 fun h' lf=>k h' ⟨lf.1,a3,lf.2.1.2.2,lf.2.2.1⟩ lf.2.2.2
end
theorem zLH:entryFor table "proto.unchain" = some Builtin.«proto.unchain» := entryFor_of_tree (by kernel_rfl)
section
variable {prog : Program} {w : World} {A : Around} {E : Value → Shared → Prop} {s : Shared}
theorem zPB {e y:Addr} {Q:Value→Shared→Prop} (c2:C2 s.heap y) (k:Q .none s):wpAny (model prog w) A (runValue (.builtin "proto.unchain" ⟨[.ref e,.ref y,.ref y,.bool false],[]⟩)) Q E s:=by
 obtain ⟨o,vs,q1,q2,q3⟩:=c2
 refine wpAny_runValue (codeAny_builtin zLH ?_)
 show wpAny _ _ (do let context ← field (.ref y) 2;_) _ _ _
 refine wpAny_bind (wpAny_field q1 q2 q3 ?_)
 have nn:((Value.none == Value.none)=true):=by decide
 rw [if_pos nn]
 exact wpAny_pure k
theorem zI7 {α:Type} {e y:Addr} {oe:Obj} {vs:Array Value} {Q:α→Shared→Prop} (hh:A.handled=some (.ref y)) (ne:y≠e) (c2:C2 s.heap y) (a1:s.heap.get? e=some oe) (a2:oe.data = .fields vs) (a3:2 < vs.size)
  (k:E (.ref e) { s with heap:=s.heap.update e (Obj.mapFields (·.setIfInBounds 2 (.ref y))) }):wpAny (model prog w) A (raiseNew (.ref e):Sem α) Q E s:=by
 unfold raiseNew
 refine wpAny_bind (wpAny_handled ?_)
 rw [hh]
 have nn:((Value.ref y != Value.ref e)=true):=by simp [ne]
 dsimp only
 rw [if_pos nn]
 refine wpAny_bind (wpAny_holding (zPB c2 ?_))
 have up:wpAny (model prog w) A (setField (.ref e) 2 (.ref y)) (fun _ s'=>wpAny (model prog w) A (throw (.ref e):Sem α) Q E s') E s:=wpAny_setField a1 a2 a3 (wpAny_throw k)
 exact wpAny_bind up
end
section
variable {prog : Program} {w : World} {A : Around} {E : Value → Shared → Prop} {env : Env}
variable {nm q : Str} {C N : Addr} {bs bm : List Value} {hdct : Bool} {sn : List Str} {sub : List Value} {ab : Bool} {col : Option Bool} {dd : Option Addr} {k0 k1 k2 k3 k5 : Option Value} {newId : String}
theorem zKo {s:Shared} {y:Addr} {x c:Sem Value} {Q:Flow→Shared→Prop} (hbase:bm.contains (.type "BaseException")=true) (hh:A.handled=some (.ref y))
  (h:wpAny (model prog w) A x (fun v s₁=>∃ e t,v = .ref e∧s₁.heap.get? C=some (excClassObj nm q C N bs bm hdct sn sub ab col dd k0 k1 k2 k3 k5 newId) ∧
   s₁.heap.get? e=some { cls:=.ref C,data:=.fields #[.ref t,.none,.none,.none,.bool false,.none] }∧y≠e∧C2 s₁.heap y∧(∀ R:Value→Shared→Prop,R .none s₁→wpAny (model prog w) A c R E s₁) ∧
   ∀ h',(∀ b,b≠e→h'.get? b=s₁.heap.get? b)→h'.get? e=some { cls:=.ref C,data:=.fields #[.ref t,.none,.ref y,.none,.bool true,.none] }→E (.ref e) { s₁ with heap:=h' }) E s) :
  wpAny (model prog w) A (raiseStmt env (some x) (some c)) Q E s:=by
 have cb:(Value.ref C::bm).contains (.type "BaseException")=true:=by rw [List.contains_cons,hbase,Bool.or_true]
 unfold raiseStmt
 refine wpAny_bind (wpAny_mono h (fun v s₁ h₁=>?_) fun _ _ z=>z)
 obtain ⟨e,t,rfl,hC,he,ne,c2,hc,k⟩:=h₁
 refine wpAny_bind (wpAny_holding (hc _ (wpAny_bind (wpAny_pure ?_))))
 obtain ⟨hp,g,d,tk,os⟩:=s₁
 repeat (first
  | with_reducible refine wpAny_loadPart_at he ?_
  | with_reducible refine wpAny_loadPart_at hC ?_
  | (with_reducible refine wpAny_isSubtype_exc hC ?_;rw [cb])
  | wp_step)
 have nC:C≠e:=by
  rintro rfl
  have z:=hC.symm.trans he
  simp [excClassObj] at z
 have u1:=Heap.get?_update_self (Obj.mapFields (·.setIfInBounds 3 Value.none)) he rfl
 have u2:=Heap.get?_update_self (Obj.mapFields (·.setIfInBounds 4 (Value.bool true))) u1 rfl
 have ot : ∀ b,b≠e→((hp.update e (Obj.mapFields (·.setIfInBounds 3 Value.none))).update e (Obj.mapFields (·.setIfInBounds 4 (Value.bool true)))).get? b=hp.get? b:=fun b n=>by
  rw [Heap.get?_update_other _ _ (Ne.symm n),Heap.get?_update_other _ _ (Ne.symm n)]
 have u3:=(ot C nC).trans hC
 have cy:C2 ((hp.update e (Obj.mapFields (·.setIfInBounds 3 Value.none))).update e (Obj.mapFields (·.setIfInBounds 4 (Value.bool true)))) y:=by
  obtain ⟨o,vs,z1,z2,z3⟩:=c2
  exact ⟨o,vs,(ot y ne).trans z1,z2,z3⟩
 generalize (hp.update e (Obj.mapFields (·.setIfInBounds 3 Value.none))).update e (Obj.mapFields (·.setIfInBounds 4 (Value.bool true)))=h2 at u2 ot u3 cy ⊢
 refine wpAny_loadPart_at u3 (wpAny_pure ?_)
 have ty:((excClassObj nm q C N bs bm hdct sn sub ab col dd k0 k1 k2 k3 k5 newId).cls == Value.type "type")=true:=by rfl
 rw [if_pos ty]
 refine wpAny_pure ?_
 unfold setFlight
 refine wpAny_bind (wpAny_bind (wpAny_field u2 rfl (x:=.none) rfl ?_))
 have nn : ¬ ((Value.none != Value.none)=true):=by decide
 rw [if_neg nn]
 refine wpAny_pure (zI7 hh ne cy u2 rfl (by show 2 < 6;decide) (k _ (fun b n=>?_) ?_))
 ·rw [Heap.get?_update_other _ _ (Ne.symm n)];exact ot b n
 ·exact Heap.get?_update_self (Obj.mapFields (·.setIfInBounds 2 (.ref y))) u2 rfl
end
structure zTR (h h':Heap) (e C:Addr):Prop where
 keeps : ∀ b o,h.get? b=some o→h'.get? b=some o
 new:h.get? e=none
 there : ∃ oe vs a0,h'.get? e=some oe∧oe.cls = .ref C∧oe.data = .fields vs∧vs[1]? = some .none∧vs[0]? = some a0
section
variable {prog : Program} {w : World} {A : Around} {E : Value → Shared → Prop} {env : Env}
variable {nm q : Str} {C N : Addr} {bs bm bmB : List Value} {hdct : Bool} {sn : List Str} {sub : List Value} {ab : Bool} {col : Option Bool} {dd : Option Addr} {k0 k1 k2 k3 k5 : Option Value} {B newId initId : String}
theorem zUT (F:ExcBaseFacts B newId initId bmB) {mN:Str→Option Value} {s:Shared} {x m:Str} {np mp cpos pos cp:Pos} {j j':Nat} {y:Addr} {Q:Flow→Shared→Prop} (hb:bm.contains (.type "BaseException")=true) (hh:A.handled=some (.ref y)) (c2:C2 s.heap y)
  (hx : ∀ R:Value→Shared→Prop,R (.ref C) s→wpAny (model prog w) A (eval (.Name x np) env) R E s) (hC:s.heap.get? C=some (excClassObj nm q C N bs bm hdct sn sub ab col dd k0 k1 k2 k3 k5 newId)) (hN:s.heap.Ns N mN) (hni:mN "__init__" = none) (T:OwnTail s.heap bmB bm)
  (k : ∀ h' e tk,zTR s.heap h' e C→E (.ref e) { s with heap:=h',toks:=tk }) :
  wpAny (model prog w) A (exec (.Raise (some (.Call (.Name x np) [.Constant (.str m) j mp] [] cpos)) (some (.Constant .none j' cp)) pos) env) Q E s:=by
 rw [arm_exec_Raise]
 refine wpAny_bind (wpAny_standAt ?_)
 refine zKo (y:=y) (C:=C) (nm:=nm) (q:=q) (N:=N) (bs:=bs) (bm:=bm) (hdct:=hdct) (sn:=sn) (sub:=sub) (ab:=ab) (col:=col) (dd:=dd) (k0:=k0) (k1:=k1) (k2:=k2) (k3:=k3) (k5:=k5) (newId:=newId) hb hh ?_
 refine wpAny_bind (wpAny_Call_ofName (hx _ ?_))
 unfold callWith
 refine wpAny_bind (wpAny_holding (Calls.evalArgs_plain (Calls.spliced_cons (Calls.Constant_str (k:=j) (pos:=mp) (Calls.spliced_nil ?_)))))
 refine wpAny_bind (wpAny_standAt ?_)
 have st:(((backTo cpos (starEach [Expr.Constant (Const.str m) j mp] env)).any fun x=>x.fst) || (backToKw cpos (keywordEach [] env)).any fun x=>x.fst.isNone)=false:=rfl
 simp only [st]
 obtain ⟨hp,g,d,tk,os⟩:=s
 refine wpAny_bind (wpAny_keeperOf_exc hC ?_)
 dsimp only
 have one:([]++[Value.str m tk]).length≤sizeLine:=by show 1≤sizeLine;decide
 refine wpAny_bind (wpAny_call_exc_subT (hrest:=one) F T hC hN hni fun h' e hm=>wpAny_bind (wpAny_holding (wpAny_point (wpAny_pure ?_))))
 refine wpAny_bind (wpAny_standAt (wpAny_pure ?_))
 obtain ⟨t,h1,h2,h3⟩:=hm.there
 have ny:y≠e:=by
  rintro rfl
  obtain ⟨o,vs,z1,_⟩:=c2
  have:=hm.new
  rw [z1] at this;cases this
 refine ⟨e,t,rfl,hm.keeps _ _ hC,h1,ny,?_,fun R hR=>wpAny_bind (wpAny_Constant_none (wpAny_bind (wpAny_standAt (wpAny_pure hR)))),fun h'' o1 o2=>?_⟩
 ·obtain ⟨o,vs,z1,z2,z3⟩:=c2
  exact ⟨o,vs,hm.keeps _ _ z1,z2,z3⟩
 ·refine k h'' e (tk+1) ⟨fun b o z=>?_,hm.new,⟨_,_,_,o2,rfl,rfl,rfl,rfl⟩⟩
  rw [o1 b (fun z1=>by have:=hm.new;rw [← z1,z] at this;cases this)]
  exact hm.keeps b o z
end
def CXE2 (P:Program) (w:World):CXT:=fun outer H s E e s'=>∃ (x C:Addr) (a0:Value) (H':Hp) (B:Heap),e = .ref x∧s'.os=s.os∧AllBare s'.gens∧Heap.FlyingW B outer x (.ref C) a0 s'.heap∧C2 s'.heap x ∧
 (∀ h',B.StaysIn h'→s'.heap.UpToSlots h'→Un (frs outer) [] H H' s.heap h'∧HOk P w H' h')∧s.heap.get? x=none∧H' x=none∧E (.ref C) none H'
section
variable {P : Program} {w : World} {K : W.Frag} {mg : Str → Option Value} {base : Heap} {N : List Str} {qual : Str} {scope : Scope} {f : Addr} {cd : Value} {A : Around} {outer : List Env} {s : Shared} {H : Hp} {E : XK} {CX : CXT}
theorem zQq {pins:List (Addr × Obj)} {σ:St} {H1:Hp} {s1:Shared} {h' h2:Heap} (I:Inv (cxOf CX P w K mg base N qual scope f cd A outer s H E) pins σ H1 s1) (kp : ∀ b o,s1.heap.get? b=some o→h'.get? b=some o) (f4:h'.UpToSlots h2) :
  ∀ h3,(W.hideAll s1.heap (frs (envOfC qual scope s.heap.objs.size f cd::outer))).StaysIn h3→h2.UpToSlots h3→Un (frs outer) [] H H1 s.heap h3∧HOk P w H1 h3:=by
 intro h3 st sm
 have hst : ∀ b ∈ frs (envOfC qual scope s.heap.objs.size f cd::outer),H1 b=none:=I.stkFree
 have FF:s1.heap.FunFrames base (envOfC qual scope s.heap.objs.size f cd::outer):=I.stack
 have old : ∀ b o,s.heap.get? b=some o→b≠s.heap.objs.size:=fun b o e=>Nat.ne_of_lt (Heap.lt_size e)
 have sub : ∀ b,b ∈ frs (envOfC qual scope s.heap.objs.size f cd::outer)→b=s.heap.objs.size∨b ∈ frs outer:=fun b hb=>List.mem_cons.mp (I.stkSub b hb)
 have here : ∀ b o,s1.heap.get? b=some o→b ∉ frs (envOfC qual scope s.heap.objs.size f cd::outer)→h3.get? b=some o:=fun b o e n=>st b o (W.hideAll_get _ e n)
 have fram : ∀ b o,s1.heap.get? b=some o→b ∈ frs (envOfC qual scope s.heap.objs.size f cd::outer) → ∃ sl,h3.get? b=some { o with slots:=sl }:=fun b o e m=>by
  obtain ⟨_,o',e',nf⟩:=FF.mem m
  have z:o'=o:=Option.some.inj (e'.symm.trans e)
  subst z
  obtain ⟨sl,e2⟩:=f4 b o' (kp b o' e) nf
  obtain ⟨sl',e3⟩:=sm b _ e2 nf
  exact ⟨sl',e3⟩
 refine ⟨⟨fun b o e n hb hx=>?_,fun b o e n hb hx=>?_,fun b o e n hx=>I.base.free b o e n hx,fun b o e hx=>?_,I.base.tups,I.base.frzs,I.base.tbls⟩,fun a u e=>?_⟩
 ·exact here b o (I.base.keep b o e n hb hx) fun z=>(sub b z).elim (old b o e) hb
 ·obtain ⟨sl,e1⟩:=I.base.slot b o e n hb hx
  have mem:b ∈ frs (envOfC qual scope s.heap.objs.size f cd::outer):=by
   show b ∈ List.filterMap _ _
   rw [List.filterMap_cons]
   exact List.mem_cons_of_mem _ hb
  obtain ⟨sl',e2⟩:=fram b _ e1 mem
  exact ⟨sl',e2⟩
 ·obtain ⟨o',e1⟩:=I.base.there b o e hx
  by_cases mem:b ∈ frs (envOfC qual scope s.heap.objs.size f cd::outer)
  ·obtain ⟨sl,e2⟩:=fram b o' e1 mem
   exact ⟨_,e2⟩
  ·exact ⟨o',here b o' e1 mem⟩
 ·refine (I.hok a u e).stay (fun b ob hb eb=>here b ob eb fun z=>?_) (fun _ z=>z) (fun _ _ z=>z)
  have:=hst b z
  rcases hb with rfl | hb
  ·rw [e] at this;cases this
  ·rw [hb] at this;cases this
theorem zSX {pins : List (Addr × Obj)} {σ : St} {H1 : Hp} {s1 : Shared} {x : Addr} (I : Inv (cxOf CX P w K mg base N qual scope f cd A outer s H E) pins σ H1 s1) (nw : s1.heap.get? x = none) : s.heap.get? x = none ∧ H1 x = none := by
  constructor
  · cases z : s.heap.get? x with
    | none => rfl
    | some o =>
      obtain ⟨o', e1⟩ := I.base.there x o z (fun h => nomatch h)
      rw [nw] at e1; cases e1
  · cases z : H1 x with
    | none => rfl
    | some o =>
      obtain ⟨ob, e1⟩ := (I.hok x o z).is
      rw [nw] at e1; cases e1
theorem zJz {pins:List (Addr × Obj)} {σ:St} {H1:Hp} {s1:Shared} (I:Inv (cxOf CX P w K mg base N qual scope f cd A outer s H E) pins σ H1 s1):s1.heap.FunFrames (W.hideAll s1.heap (frs (envOfC qual scope s.heap.objs.size f cd::outer))) (envOfC qual scope s.heap.objs.size f cd::outer):=by
 have FF:s1.heap.FunFrames base (envOfC qual scope s.heap.objs.size f cd::outer):=I.stack
 exact W.funFrames_hide FF fun env he b hb=>List.mem_filterMap.mpr ⟨env,he,hb⟩
theorem zLp {pins:List (Addr × Obj)} {σ:St} {H1:Hp} {s1:Shared} {h':Heap} {x C:Addr} {args:List Value}
  (I:Inv (cxOf (CXE2 P w) P w K mg base N qual scope f cd A outer s H E) pins σ H1 s1) (hm:Heap.MadeExcOf s1.heap h' x (.ref C) args) (q:E (.ref C) none H1) :
  (cxOf (CXE2 P w) P w K mg base N qual scope f cd A outer s H E).xe (.ref x) { s1 with heap:=h' }:=by
 have nw:=zSX I hm.new
 refine zMH (s:={ s1 with heap:=h' }) (base:=W.hideAll s1.heap (frs (envOfC qual scope s.heap.objs.size f cd::outer))) I.ok.frames rfl (fun b o e=>W.of_hideAll _ e) (zJz I) hm fun h2 a0 f1 f2 f4=>?_
 exact ⟨x,C,a0,H1,_,rfl,I.os,I.bare,f1,f2,zQq I hm.keeps f4,nw.1,nw.2,q⟩
theorem zRt {pins:List (Addr × Obj)} {σ:St} {H1:Hp} {s1:Shared} {h':Heap} {x C:Addr} {tk:Nat}
  (I:Inv (cxOf (CXE P w) P w K mg base N qual scope f cd A outer s H E) pins σ H1 s1) (hm:zTR s1.heap h' x C) (q:E (.ref C) none H1) :
  (cxOf (CXE P w) P w K mg base N qual scope f cd A outer s H E).xe (.ref x) { s1 with heap:=h',toks:=tk }:=by
 have nw:=zSX I hm.new
 obtain ⟨oe,vs,a0,m1,m2,m3,m4,m5⟩:=hm.there
 have FF:=zJz I
 have bs:(W.hideAll s1.heap (frs (envOfC qual scope s.heap.objs.size f cd::outer))).StaysIn s1.heap:=fun b o e=>W.of_hideAll _ e
 have bx:(W.hideAll s1.heap (frs (envOfC qual scope s.heap.objs.size f cd::outer))).get? x=none:=by
  cases z:(W.hideAll s1.heap (frs (envOfC qual scope s.heap.objs.size f cd::outer))).get? x with
  | none=>rfl
  | some o=>have:=bs x o z;rw [hm.new] at this;cases this
 refine zON (s:={ s1 with heap:=h',toks:=tk }) (base:=W.hideAll s1.heap (frs (envOfC qual scope s.heap.objs.size f cd::outer))) I.ok.frames rfl m1 (fun b o e=>hm.keeps b o (bs b o e)) (FF.of_keeps fun b o e _=>⟨o,hm.keeps b o e,rfl⟩) bx m3 m4 m5 fun h2 f1 f4=>?_
 rw [m2] at f1
 exact ⟨x,C,a0,H1,_,rfl,I.os,I.bare,f1,zQq I hm.keeps f4,nw.1,nw.2,q⟩
end
def zST (X:Cx) (E:XK):Prop:=∀ (pins:List (Addr × Obj)) (σ:St) (H:Hp) (s:Shared) (h':Heap) (x C:Addr) (tk:Nat),Inv X pins σ H s→zTR s.heap h' x C→E (.ref C) none H→X.xe (.ref x) { s with heap:=h',toks:=tk }
theorem zUW {P:Program} {w:World} {K:W.Frag} {mg:Str→Option Value} {base:Heap} {N:List Str} {qual:Str} {scope:Scope} {f:Addr} {cd:Value} {A:Around} {outer:List Env} {s:Shared} {H:Hp} {E:XK}:zST (cxOf (CXE P w) P w K mg base N qual scope f cd A outer s H E) E:=
 fun pins σ H s h' x C tk I hm q=>zRt I hm q
theorem Fun.okX2 {P:Program} {w:World} {K:W.Frag} {mg:Str→Option Value} {base:Heap} {x qual:Str} {st:Stmt} {f:Addr} {fd:FuncData} {N ps:List Str} {k:Nat} {sp:Sp} (F:Fun K x qual st f fd) (S:zAR N ps (zAF st)) (len : ∀ vs H Q E,sp vs H Q E→vs.length=ps.length)
  (hbody : ∀ (cdv:Value) (A:Around) (outer:List Env) (s:Shared) (H:Hp) (vs:List V) (Q:VK) (E:XK),Room k (A.deeper (envOfC qual (zAF st) s.heap.objs.size f cdv))→sp vs H Q E →
   zQ8 (cxOf (CXE2 P w) P w K mg base N qual (zAF st) f cdv A outer s H E) E → ∃ t,PSs (cxOf (CXE2 P w) P w K mg base N qual (zAF st) f cdv A outer s H E) (zAK st) t∧t { nx:=fun _ H'=>Q .non H',rt:=Q } (start N vs) H):FnOk P w K mg base (CXE2 P w) (k+1) f fd ps sp:=by
 obtain ⟨oc,od,kV,doc,pm,an,cdv,ct,osl,rfl,lk,hcd⟩:=F.ex
 exact zPv lk hcd S len fun A outer s H vs Q E hr hsp=>hbody cdv A outer s H vs Q E hr hsp fun pins σ H s h' x C args I hm q=>zLp I hm q
theorem FnOk.of2 {P : Program} {w : World} {K : W.Frag} {mg : Str → Option Value} {base : Heap} {k : Nat} {f : Addr} {fd : FuncData} {ps : List Str} {sp : Sp} (F : FnOk P w K mg base (CXE2 P w) k f fd ps sp) : FnOk P w K mg base (CXE P w) k f fd ps sp :=
  ⟨F.len, fun A outer s H args us vs Q E hr he hb hv hs => codeAny_mono (F.run A outer s H args us vs Q E hr he hb hv hs) fun r s' hq => by
    cases r with
    | ok fl => cases fl <;> exact hq
    | error e =>
      obtain ⟨x, C, a0, H', B, z1, z2, z3, z4, _, z5⟩ := hq
      exact ⟨x, C, a0, H', B, z1, z2, z3, z4, z5⟩⟩
def zQz (P:Program) (w:World) (K:W.Frag) (mg:Str→Option Value) (base:Heap) (x:Str) (k:Nat) (ps:List Str) (sp:Sp):Prop:=
 ∃ (f:Addr) (fd:FuncData),FnOk P w K mg base (CXE2 P w) k f fd ps sp∧mg x=some (.ref f)∧W.keepIn K (.ref f)=true∧zB7 K fd ps []
def XP2 (X:Cx) (pins:List (Addr × Obj)) (σ:St) (E:XK) (e:Value) (s':Shared):Prop:=∃ H1 s1,Inv X pins σ H1 s1∧CXE2 X.prog X.w X.stack H1 s1 E e s'
def Cx.tr2 (X:Cx) (pins:List (Addr × Obj)) (σc:St) (E:XK):Cx:={ X with pn:=X.pn++pins,xe:=XP2 X pins σc E }
section
variable {X : Cx} {pins pins0 : List (Addr × Obj)} {σ σc : St} {H : Hp} {s : Shared} {E : XK}
theorem Cx.Ok.tr2 (ok:X.Ok):(X.tr2 pins σc E).Ok:=⟨ok.mod,ok.kind,ok.glob,ok.blt,ok.above,ok.inj,ok.has,ok.cab,ok.hd,ok.frames,ok.stk,ok.exf,ok.bs,ok.bsz,ok.noex,ok.exfs,ok.funs,ok.frf⟩
theorem Cx.Ok.untr2 (ok:(X.tr2 pins σc E).Ok):X.Ok:=⟨ok.mod,ok.kind,ok.glob,ok.blt,ok.above,ok.inj,ok.has,ok.cab,ok.hd,ok.frames,ok.stk,ok.exf,ok.bs,ok.bsz,ok.noex,ok.exfs,ok.funs,ok.frf⟩
theorem Inv.tr2 (I:Inv X pins σ H s):Inv (X.tr2 pins σc E) [] σ H s:=⟨I.ok.tr2,I.os,I.bare,I.base,I.loc,I.cell,I.free,I.freeC,fun p hp=>I.pin p (by simpa [Cx.tr2] using hp),I.hok,I.len⟩
theorem Inv.untr2 (I:Inv (X.tr2 pins0 σc E) pins σ H s):Inv X pins0 σ H s:=⟨I.ok.untr2,I.os,I.bare,I.base,I.loc,I.cell,I.free,I.freeC,fun p hp=>I.pin p (List.mem_append_left _ hp),I.hok,I.len⟩
theorem SP.untr2 {D:Ends} {f:Flow} {s':Shared} (h:SP (X.tr2 pins0 σc E) pins D f s'):SP X pins0 D f s':=by
 cases f with
 | next=>obtain ⟨σ',H',I,q⟩:=h;exact ⟨σ',H',I.untr2,q⟩
 | brk=>obtain ⟨σ',H',I,q⟩:=h;exact ⟨σ',H',I.untr2,q⟩
 | cont=>obtain ⟨σ',H',I,q⟩:=h;exact ⟨σ',H',I.untr2,q⟩
 | ret u=>obtain ⟨v,σ',H',I,r,q⟩:=h;exact ⟨v,σ',H',I.untr2,r,q⟩
end
section
variable {X : Cx} {pins0 : List (Addr × Obj)} {σc : St} {k n : Nat} {C : Addr} {ps : List Str} {sp : Sp} {E : XK} {x m : Str} {p np pos apos : Pos} {e o : Expr} {es : List Expr} {ta : TE} {t : TA}
theorem zRS {pins : List (Addr × Obj)} {σ : St} {H : Hp} {s : Shared} {Q : VK} {us : List Value} {vs : List V} {f : Addr} {fd : FuncData} (F : FnOk X.prog X.w X.K X.mg X.base (CXE2 X.prog X.w) k f fd ps sp) (hr : Room k X.A) (hb : zB7 X.K fd ps [])
    (I : Inv (X.tr2 pins0 σc E) pins σ H s) (r : Vals vs us) (wk : Wk σc σ) (h : sp (vs ++ []) H Q E) : wpAny (model X.prog X.w) X.A (call (.ref f) us) (EP (X.tr2 pins0 σc E) pins σ Q) (X.tr2 pins0 σc E).xe s := by
  have r2 : Vals (vs ++ []) (us ++ []) := r.append .nil
  have hl : (us ++ []).length = ps.length := by rw [← r2.length]; exact F.len _ _ _ _ h
  have e0 : Env0 X.prog X.w X.K X.mg X.base X.A X.stack s H := I.env0
  refine wpAny_call (codeAny_mono (F.run X.A X.stack s H ⟨us, []⟩ (us ++ []) (vs ++ []) Q E hr e0 (hb s us I.kIn hl) r2 h) fun r s' hq => ?_)
  cases r with
  | error e => exact ⟨H, s, I.untr2.weak wk.1 wk.2, hq⟩
  | ok fl =>
    cases fl with
    | ret u => exact I.after hq
    | next => exact False.elim hq
    | brk => exact False.elim hq
    | cont => exact False.elim hq
theorem zLZ (F:zQz X.prog X.w X.K X.mg X.base x k ps sp) (hr:Room n X.A) (hg:Gl X x) (ha:PA (X.tr2 pins0 σc E) (e::es) t) (hk:k≤n:=by decide)
  (hdb:(x == ("__debug__" : Str))=false:=by decide) (he:starEach (e::es) X.env=(false,eval e X.env)::starEach es X.env:=by rfl) (hpl:(backTo pos (starEach es X.env)).any (·.1)=false:=by rfl) :
  PE (X.tr2 pins0 σc E) (.Call (.Name x p) (e::es) [] pos) (zQW sp E σc t):=by
 intro pins s σ H Q I h
 obtain ⟨f,fd,G,hm,kp,b⟩:=F
 refine wpAny_Call_Name_kw (zCq I hg hm ?_ hdb)
 refine W.callWith_K (h₀:=X.base) I.ok.mod.kin kp (thn (ha pos pins s σ H _ I h) fun us s1 ⟨vs,H1,I1,r,q⟩=>⟨I1.kIn,?_⟩) he hpl
 exact zRS (G.mono hk) hr b I1 r q.1 q.2
end
def zWb (K:W.Frag) (C1 C2 CR:Addr) (E:XK) (tb:St→XK→TS):TS:=fun D σ H=>∃ σc,tb σc (fun cls _ H2=>∃ C,cls = .ref C∧W.exmAny K (.ref C) [.ref C1,.ref C2]=some true∧E (.ref CR) none H2) D σ H
theorem zTF {X:Cx} {c1 c2 cx msg:Str} {C1 C2' CR:Addr} {E:XK} {p1 p2 tpos np mp cpos cp rpos hpos pos:Pos} {kk j j':Nat} {body:List Stmt} {tb:St→XK→TS}
  (hst:X.stack=X.env::X.outer) (hfr:X.env.frame=some X.env.locals) (hc:X.calm=true) (ce:Exc X.K CR) (tk:zST X E) (po : ∀ hd,PassesOwnAt (model X.prog X.w) (X.A.mark hd) X.A X.env X.xe)
  (g1:Gl X c1) (m1:X.mg c1=some (.ref C1)) (g2:Gl X c2) (m2:X.mg c2=some (.ref C2')) (gr:Gl X cx) (mr:X.mg cx=some (.ref CR)) (hb : ∀ pins σc E,PSs (X.tr2 pins σc E) body (tb σc E))
  (d1:(c1 == ("__debug__" : Str))=false:=by decide) (d2:(c2 == ("__debug__" : Str))=false:=by decide) (dr:(cx == ("__debug__" : Str))=false:=by decide) :
  PS X (.Try body [.ExceptHandler (some (.Tuple [.Name c1 p1,.Name c2 p2] kk tpos)) none [.Raise (some (.Call (.Name cx np) [.Constant (.str msg) j mp] [] cpos)) (some (.Constant .none j' cp)) rpos] hpos] [] [] pos) (zWb X.K C1 C2' CR E tb):=by
 intro pins s σ H D I h
 obtain ⟨σc,h⟩:=h
 refine wpAny_Try_except (wpAny_mono (hb pins σc _ [] s σ H D I.tr2 h) (fun f s1 q=>?_) fun er s' z=>?_)
 ·cases f with
  | next=>exact wpAny_execs_nil q.untr2
  | ret u=>exact q.untr2
  | brk=>exact q.untr2
  | cont=>exact q.untr2
 ·obtain ⟨H1,s1,I1,fl⟩:=z
  obtain ⟨y,C,a0,H2,B,rfl,hos,hbare,fly,cc,clo,hy0,hy2,C0,z0,exm,q⟩:=fl
  cases z0
  rw [hst] at fly
  refine zVL (I.ok.frames.trans (congrArg some hst)) hfr fly cc fun h1 held cc1 sm1=>?_
  refine zWY held cc1 fun h2 fly2 cc2 sm2=>?_
  have cl : ∀ h',B.StaysIn h'→h2.UpToSlots h'→Inv X pins σc H2 { s' with heap:=h' }:=fun h' st sm=>by
   have c:=clo h' st ((sm1.trans sm2).trans sm)
   exact I1.call' (s':={ s' with heap:=h' }) hos c.1 c.2 hbare (fun b z=>nomatch z)
  have I2:Inv X pins σc H2 { s' with heap:=h2 }:=cl h2 fly2.1 (Heap.UpToSlots.refl _)
  have hhd:(X.A.mark (some (.ref y))).handled=some (.ref y):=rfl
  refine wpAny_handleBy_cons (codeAny_handlers_test ?_) (by intro q;cases q)
  refine wpAny_Tuple (wpAny_items_cons (zCq (I2.inExc y) g1 m1 (wpAny_items_cons (zCq (I2.inExc y) g2 m2 (wpAny_items_nil ⟨by size_fits,?_⟩) d2)) d1))
  have kp : ∀ b o,h2.get? b=some o→(h2.push { cls:=.type "tuple", data:=.seq [Value.ref C1,Value.ref C2'].toArray }).get? b=some o:=fun _ _ z=>Heap.get?_push_of_some _ z
  have ty2:W.Looks (model X.prog X.w) h2 (typeOf (.ref y)) (.ref C):=(isx fly2).ty
  refine (W.exm_tup2 (M:=model X.prog X.w) (I2.kIn.keeps kp) (ty2.keeps kp) (Heap.get?_push_size h2 rfl) exm).here ?_
  have up:h2.UpToSlots (h2.push { cls:=.type "tuple", data:=.seq [Value.ref C1,Value.ref C2'].toArray }):=Heap.UpToSlots.of_keeps kp
  have fly3:Heap.FlyingW B (X.env::X.outer) y (.ref C) a0 (h2.push { cls:=.type "tuple", data:=.seq [Value.ref C1,Value.ref C2'].toArray }):=by
   obtain ⟨f1,f2,f3,oe,vs,t,ot,ts,q1,q2,q3,q4,q5,q6,q7,q8,q9⟩:=fly2
   exact ⟨fun b o z=>kp b o (f1 b o z),f2,f3.of_keeps fun b o z _=>⟨o,kp b o z,rfl⟩,oe,vs,t,ot,ts,kp _ _ q1,q2,q3,q4,q5,q6,kp _ _ q7,q8,q9⟩
  have cc3:C2 (h2.push { cls:=.type "tuple", data:=.seq [Value.ref C1,Value.ref C2'].toArray }) y:=by
   obtain ⟨o,vs,z1,z2,z3⟩:=cc2
   exact ⟨o,vs,kp _ _ z1,z2,z3⟩
  refine codeAny_handlers_suite (zT3 fly3 cc3 fun h4 fly4 cc4 sm4=>?_)
  have I4:Inv X pins σc H2 { s' with heap:=h4 }:=cl h4 fly4.1 (up.trans sm4)
  obtain ⟨tl,Nn,nm,qq,bs,hdct,sn,sub,ab,col,dd,k0,k1,k2,k3,k5,mN,hC,hN,hni,T⟩:=zPm I4.kIn ce
  refine wpAny_passesOwnAt (po (some (.ref y))) (wpAny_execs_cons ?_)
  refine zUT (s:={ s' with heap:=h4 }) (C:=CR) (bm:=tl) (mN:=mN) (N:=Nn) (nm:=nm) (q:=qq) (bs:=bs) (hdct:=hdct) (sn:=sn) (sub:=sub) (ab:=ab) (col:=col) (dd:=dd) (k0:=k0) (k1:=k1) (k2:=k2) (k3:=k3) (k5:=k5) PySem.F.excBase_ValueError (T.hasType PySem.F.excBase_ValueError.hasBase) hhd cc4 (fun R hR=>zCq (I4.inExc y) gr mr hR dr) hC hN hni T fun h5 e5 tk5 mr5=>?_
  exact tk pins σc H2 { s' with heap:=h4 } h5 e5 CR tk5 I4 mr5 q
theorem zVb {K:W.Frag} {C1 C2 CR:Addr} {E:XK} {tb:St→XK→TS} {D:Ends} {σ:St} {H:Hp} (σc:St) (h:tb σc (fun cls _ H2=>∃ C,cls = .ref C∧W.exmAny K (.ref C) [.ref C1,.ref C2]=some true∧E (.ref CR) none H2) D σ H):zWb K C1 C2 CR E tb D σ H:=⟨σc,h⟩
theorem zRa {P : List Nat → Prop} (h0 : P []) (hs : ∀ l c, P l → P (l ++ [c])) (l : List Nat) : P l := by
  have : ∀ n (l : List Nat), l.length = n → P l := fun n => by
    induction n with
    | zero => intro l h; rw [List.length_eq_zero_iff.mp h]; exact h0
    | succ n ih =>
      intro l h
      have ne : l ≠ [] := fun z => by rw [z] at h; cases h
      rw [← List.dropLast_concat_getLast ne]
      exact hs _ _ (ih _ (by rw [List.length_dropLast]; omega))
  exact this _ l rfl
def zD3 (p:Nat) (t:List Nat):List Nat:=if p=0 then t else t.take (t.length - p - 1)
def zJS (p:Nat) (t:List Nat):List Nat:=if p=0 then [] else t.drop (t.length - p)
def WE (p pt:Nat) (t:List Nat):Prop:=p=0∨(p+1≤t.length∧t.getD (t.length - p - 1) 0=pt)
def NZ (u:List Nat):Prop:=¬ (1 < u.length∧u.getD 0 0=48)
def IsB (b:Int) (p pt z m:Nat) (t:List Nat):Prop:=WE p pt t∧GG z m (zD3 p t)∧FigB b (ug z (zD3 p t)++zJS p t)∧NZ (ug z (zD3 p t))
def bval (b:Int) (p z:Nat) (t:List Nat):Int:=val b (ug z (zD3 p t)++zJS p t)
theorem zPt {p pt:Nat} {t:List Nat} (h:WE p pt t):(zJS p t).length=p:=by
 unfold zJS
 rcases h with h | h
 ·rw [if_pos h,h];rfl
 ·split
  ·rename_i z;rw [z];rfl
  ·rw [List.length_drop];omega
theorem zVd {z:Nat} {t:List Nat} {c:Nat} (h:c ∈ ug z t):c ∈ t:=by
 unfold ug at h
 split at h
 ·exact h
 ·rename_i hz
  have key : ∀ l:List Nat,c ∈ UJ z l→c ∈ l:=fun l=>by
   refine zRa (P:=fun l=>c ∈ UJ z l→c ∈ l) (fun h=>by rw [zFS] at h;exact h) (fun l x ih h=>?_) l
   rw [zQx (by omega) l.length l (Nat.le_refl _)] at h
   rcases List.mem_append.mp h with h | h
   ·exact List.mem_append_left _ (ih h)
   ·split at h
    ·cases h
    ·exact List.mem_append_right _ h
  have:=key _ (List.mem_reverse.mp h)
  exact List.mem_reverse.mp this
theorem zPA {p:Nat} {t:List Nat}:t.take (zD3 p t).length=zD3 p t:=by
 unfold zD3
 split
 ·exact List.take_length
 ·rw [List.length_take,Nat.min_def]
  split
  ·rfl
  ·rw [List.take_length,List.take_of_length_le (by omega)]
theorem zOz {p pt:Nat} {t:List Nat} (h:WE p pt t):t.drop ((zD3 p t).length+1)=zJS p t:=by
 unfold zD3 zJS
 split
 ·exact List.drop_of_length_le (by omega)
 ·rename_i n
  rcases h with h | h
  ·exact absurd h n
  ·rw [List.length_take,Nat.min_eq_left (by omega),show t.length - p - 1+1=t.length - p by omega]
theorem zP7 {p:Nat} {t:List Nat}:(zD3 p t).length≤t.length:=by
 unfold zD3;split
 ·exact Nat.le_refl _
 ·rw [List.length_take];omega
theorem zRG {p z:Nat} {t:List Nat} (h:Asc t):Asc (ug z (zD3 p t)++zJS p t):=by
 intro c hc
 rcases List.mem_append.mp hc with hc | hc
 ·have:=zVd hc
  unfold zD3 at this
  split at this
  ·exact h c this
  ·exact h c (List.mem_of_mem_take this)
 ·unfold zJS at hc
  split at hc
  ·cases hc
  ·exact h c (List.mem_of_mem_drop hc)
section
variable {X : Cx} {H : Hp} {Q : VK} {K : W.Frag}
open PySem.Builtin PySem.Builtin.Str in
def dEnt (w:World) (e:Str × Tok × Value):DictEntry:=⟨hashStr w e.1,.str e.1 e.2.1,e.2.2⟩
def KDs (w:World) (K:W.Frag) (d:Addr) (ks:List Str):Prop:=(d == sysModules)=false ∧ ∃ (kvs:List (Str × Tok × Value)) (n:Nat),K.lookup d=some { cls:=.type "dict", data:=.dict (kvs.map (dEnt w)).toArray n }∧ks=kvs.map (·.1)∧ks.Nodup∧ks.length≤1000
theorem isStrOf_shape {k:Str} {v:Value} (h:Value.isStrOf k v=true) : ∃ t,v = .str k t:=by
 rcases zB5 (k:=Sum.inr k) h with ⟨i,t,z,_⟩ | ⟨x,t,z,e⟩
 ·cases z
 ·cases z;exact ⟨t,e⟩
end
theorem zXK {w:World} {K:W.Frag} {d:Addr} {n0:Nat} {t0 t1 t2 t3 t4:Tok} {v0 v1 v2 v3 v4:Value} (lo:(d == sysModules)=false)
  (hd:K.lookup d=some { cls:=.type "dict", data:=.dict #[⟨PyData.keyHash w.params "minus", .str "minus" t0,v0⟩,⟨PyData.keyHash w.params "plus", .str "plus" t1,v1⟩,⟨PyData.keyHash w.params "blank", .str "blank" t2,v2⟩,⟨PyData.keyHash w.params "brackets", .str "brackets" t3,v3⟩,⟨PyData.keyHash w.params "behind", .str "behind" t4,v4⟩] n0 }):KDs w K d ["minus", "plus", "blank", "brackets", "behind"]:=
 ⟨lo,[("minus", t0,v0),("plus", t1,v1),("blank", t2,v2),("brackets", t3,v3),("behind", t4,v4)],n0,hd,rfl,by decide +kernel,by decide⟩
def wfs (L:Addr) (n:Nat):List (Str × V):=[("words", .ref L),("at", .int n)]
def Wr (K:W.Frag) (C:Addr) (H:Hp) (a:Addr) (rest:List (List Nat)):Prop:=∃ (dx L:Addr) (ws:List (List Nat)) (n:Nat),H a=some (.ins C dx (wfs L n))∧SqL K H L (tsV ws)∧n≤ws.length∧ws.drop n=rest∧ws.length≤100
section
variable {K : W.Frag} {C : Addr} {H H' : Hp} {a L dx : Addr} {n : Nat} {rest : List (List Nat)}
theorem Wr.same (g:Same H H') (h:Wr K C H a rest):Wr K C H' a rest:=let ⟨d,L,ws,n,e1,e2,e3,e4,e5⟩:=h;⟨d,L,ws,n,g.at e1,g.seq e2,e3,e4,e5⟩
theorem SB.tup {xs:List V} {p:Addr} (s:SB a H H') (w:Wr K C H a rest) (h:H p=some (.tup xs)):H' p=some (.tup xs):=by
 obtain ⟨d,L,ws,n,e1,_⟩:=w
 exact s p _ (fun z=>by subst z;rw [e1] at h;cases h) h
theorem SB.lst {xs:List V} {p:Addr} (s:SB a H H') (w:Wr K C H a rest) (h:H p=some (.lst xs)):H' p=some (.lst xs):=by
 obtain ⟨d,L,ws,n,e1,_⟩:=w
 exact s p _ (fun z=>by subst z;rw [e1] at h;cases h) h
theorem SB.trans {F:Hp} (s:SB a H H') (t:SB a H' F):SB a H F:=fun b o n e=>t b o n (s b o n e)
theorem SB.of (g:Same H H'):SB a H H':=fun b o _ e=>g _ _ e
end
def zRX:R2:=fun x y H Q=>y = .non∧Q (.bl (!decide (x = .non))) H
theorem zOF {X:Cx}:OpR X (compareOp .IsNot) zRX:=zUC
theorem zUa {i:Int} {H:Hp} {Q:VK} (q:Q (.bl true) H):zRX (.int i) .non H Q:=⟨rfl,by rw [decide_eq_false (fun z=>nomatch z)];exact q⟩
section
variable {X : Cx} {tg : Expr}
structure zXY (lo hi c:Int) (n:Nat):Prop where
 one:1≤c
 lit:Builtin.Range.small lo hi c=true
 num:Builtin.Range.rangeSize lo hi c=n
 room:Builtin.divisionGoesByPylong (hi - lo) c=false
end
def tOrE (t1 t2:TE):TE:=fun σ H Q=>t1 σ H Q∨t2 σ H Q
section
variable {X : Cx} {σ : St} {H : Hp} {Q : VK} {K : W.Frag} {w : World}
theorem zD5 {e:Expr} {t1 t2:TE} (h1:PE X e t1) (h2:PE X e t2):PE X e (tOrE t1 t2):=fun pins s σ H Q I h=>h.elim (h1 pins s σ H Q I) (h2 pins s σ H Q I)
theorem zH2 {t1 t2:TE} (h:t1 σ H Q):tOrE t1 t2 σ H Q:=.inl h
theorem zFC {t1 t2:TE} (h:t2 σ H Q):tOrE t1 t2 σ H Q:=.inr h
end
section
variable {X : Cx} {CX : CXT} {k : Nat} {f : Addr} {fd : FuncData} {ps : List Str} {sp : Sp} {dvs : List V} {ds : List Value} {E : XK} {x : Str} {p pos : Pos} {e a : Expr} {es : List Expr} {te ta : TE} {t : TA}
structure zTx (P:Program) (w:World) (K:W.Frag) (mg:Str→Option Value) (base:Heap) (CX:CXT) (k:Nat) (f:Addr) (fd:FuncData) (ps:List Str) (sp:Sp):Prop where
 len : ∀ vs H Q E,sp vs H Q E→vs.length=ps.length
 run : ∀ (A:Around) (outer:List Env) (s:Shared) (H:Hp) (args:Args) (us:List Value) (vs:List V) (Q:VK) (E:XK),0 < s.toks→Room k A→Env0 P w K mg base A outer s H→BindsTo s fd args (ps.zip us)→Vals vs us→sp vs H Q E →
  codeAny (model P w) A (.call (.ref f) args) (CR CX outer P w H s Q E) s
end
def PSsp (X:Cx) (st:List Stmt) (t:TS):Prop:=
 ∀ (pins:List (Addr × Obj)) (s:Shared) (σ:St) (H:Hp) (D:Ends),0 < s.toks→Inv X pins σ H s→t D σ H→wpAny (model X.prog X.w) X.A (execs st X.env) (SP X pins D) X.xe s
theorem PSsp.nox {X:Cx} {st:List Stmt} {t:TS} (h:PSsp X.nox st t):PSsp X st t:=fun pins s σ H D l I hw =>
 wpAny_mono (h pins s σ H D l (I.wish _) hw) (fun _ _ q=>q.unwish) fun _ _ z=>False.elim z
theorem zTx.mono {P:Program} {w:World} {K:W.Frag} {mg:Str→Option Value} {base:Heap} {CX:CXT} {j k:Nat} {f:Addr} {fd:FuncData} {ps:List Str} {sp:Sp} (F:zTx P w K mg base CX j f fd ps sp) (h:j≤k) :
  zTx P w K mg base CX k f fd ps sp:=⟨F.len,fun A outer s H args us vs Q E l hr=>F.run A outer s H args us vs Q E l (hr.mono h)⟩
def Df (K:W.Frag) (x:Str) (st:Stmt) (f:Addr):Prop:=∃ (oc:Value) (od:Option Addr) (kV dc pm:Value) (an:Option Addr) (cd ct:Value) (sl:Array (Option Value)),W.nsIn K mainGlobals x=some (some (.ref f)) ∧
 K.lookup f=some ⟨oc,od,.func (W.fnOf x x (zAL st) (zAK st) (zAF st) .none kV dc pm an cd ct),sl⟩∧W.codeIn K cd x=true∧W.keepIn K (.ref f)=true
def Dm (K:W.Frag) (q m:Str) (st:Stmt) (dV:Value) (C f:Addr):Prop:=∃ (oc:Value) (od:Option Addr) (kV dc pm:Value) (an:Option Addr) (cd ct:Value) (sl:Array (Option Value)),W.findIn K (.ref C) m=some (some (.ref f)) ∧
 K.lookup f=some ⟨oc,od,.func (W.fnOf m q (zAL st) (zAK st) (zAF st) dV kV dc pm an cd ct),sl⟩∧W.codeIn K cd q=true∧W.keepIn K (.ref f)=true∧W.isFn K (.ref f)=true
section
variable {K : W.Frag} {x q m : Str} {st : Stmt} {f C t : Addr} {oc dV : Value} {od : Option Addr} {kV dc pm : Value} {an : Option Addr} {cd ct : Value} {sl : Array (Option Value)}
theorem zXX (a:W.nsIn K mainGlobals x=some (some (.ref f))) (l:K.lookup f=some ⟨oc,od,.func (W.fnOf x x (zAL st) (zAK st) (zAF st) .none kV dc pm an cd ct),sl⟩) (c:W.codeIn K cd x=true) (k:W.keepIn K (.ref f)=true):Df K x st f:=⟨oc,od,kV,dc,pm,an,cd,ct,sl,a,l,c,k⟩
theorem zXZ (a:W.findIn K (.ref C) m=some (some (.ref f))) (l:K.lookup f=some ⟨oc,od,.func (W.fnOf m q (zAL st) (zAK st) (zAF st) dV kV dc pm an cd ct),sl⟩) (c:W.codeIn K cd q=true) (k:W.keepIn K (.ref f)=true) (n:W.isFn K (.ref f)=true):Dm K q m st dV C f:=⟨oc,od,kV,dc,pm,an,cd,ct,sl,a,l,c,k,n⟩
variable {h : Heap} {mg : Str → Option Value} {P : Program} {w : World} {base : Heap} {k : Nat} {ps : List Str} {sp : Sp} {CX : CXT}
end
section
variable {K : W.Frag} {σ : St} {H : Hp} {Q : VK} {is : List Nat} {tt : TT} {te : TE}
theorem zCs {a:Addr} {xs:List V} (hx:SqL K H a xs) (hz:xs.length≤sizeLine) (Pv:Nat→List V→Hp→Prop) (h0:Pv 0 [] H) (hl : ∀ i ys H,i≤xs.length→Pv i ys H→SqL K H a xs∧ys.length≤i)
  (hs : ∀ i x ys H,xs[i]? = some x→i < xs.length→Pv i ys H→tt (some x::is.map fun j=>(σ[j]?).getD none) H fun ok H2=>if ok=true then te (some x::is.map fun j=>(σ[j]?).getD none) H2 fun y H3=>NxC xs.length Pv i (ys++[y]) H3 else NxC xs.length Pv i ys H2)
  (hd : ∀ ys H,Pv xs.length ys H → ∀ p H',Same H H'→H p=none→H' p=some (.lst ys)→Q (.ref p) H'):zSi K is tt te σ Q (.ref a) H:=by
 refine ⟨a,rfl,⟨xs,hx⟩,fun i m ys H=>m=xs.length - i∧i≤xs.length∧Pv i ys H,⟨xs.length,by simp,Nat.zero_le _,h0⟩,?_⟩
 rintro i m ys H ⟨rfl,hi,p⟩
 obtain ⟨q,ly⟩:=hl i ys H hi p
 refine ⟨by omega,?_⟩
 by_cases hlt:i < xs.length
 ·refine .inr ⟨⟨xs,xs[i],q,by simp [hlt]⟩,by omega,fun x H' y=>?_⟩
  obtain ⟨e,y⟩:=y
  subst e
  exact hs i x ys _ (y xs q) hlt p
 ·have e:i=xs.length:=by omega
  subst e
  exact .inl ⟨⟨xs,q,Nat.le_refl _⟩,fun p' hp=>hd ys H p p' _ (zE7 hp _) hp zAU⟩
end
set_option maxHeartbeats 400000
def tHd (K:W.Frag) (C1 C2:Addr) (ts:TS):Addr→TS:=fun C D σ H=>W.exmAny K (.ref C) [.ref C1,.ref C2]=some true∧ts D σ H
section
variable {X : Cx} {c1 c2 : Str} {C1 C2' : Addr} {ts : TS} {th : Addr → TS} {p1 p2 tpos hpos : Pos} {kk : Nat} {b₀ : Stmt} {suite : List Stmt} {rest : List ExceptHandler}
theorem zRP (g1:Gl X c1) (m1:X.mg c1=some (.ref C1)) (g2:Gl X c2) (m2:X.mg c2=some (.ref C2')) (hs : ∀ y,PSs (X.inExc y) (b₀::suite) ts)
  (d1:(c1 == ("__debug__" : Str))=false:=by decide) (d2:(c2 == ("__debug__" : Str))=false:=by decide) :
  PHs X (.ExceptHandler (some (.Tuple [.Name c1 p1,.Name c2 p2] kk tpos)) none (b₀::suite) hpos::rest) (tHd X.K C1 C2' ts):=by
 intro pins s σ H D y C B a0 fly I clo h
 obtain ⟨exm,q⟩:=h
 refine wpAny_handleBy_cons (codeAny_handlers_test ?_) (by intro q;cases q)
 refine wpAny_Tuple (wpAny_items_cons (zCq (I.inExc y) g1 m1 (wpAny_items_cons (zCq (I.inExc y) g2 m2 (wpAny_items_nil ⟨by size_fits,?_⟩) d2)) d1))
 have kp : ∀ b o,s.heap.get? b=some o→(s.heap.push { cls:=.type "tuple", data:=.seq [Value.ref C1,Value.ref C2'].toArray }).get? b=some o:=fun _ _ z=>Heap.get?_push_of_some _ z
 have ty2:W.Looks (model X.prog X.w) s.heap (typeOf (.ref y)) (.ref C):=(isx fly).ty
 refine (W.exm_tup2 (M:=model X.prog X.w) (I.kIn.keeps kp) (ty2.keeps kp) (Heap.get?_push_size s.heap rfl) exm).here ?_
 have up:s.heap.UpToSlots (s.heap.push { cls:=.type "tuple", data:=.seq [Value.ref C1,Value.ref C2'].toArray }):=Heap.UpToSlots.of_keeps kp
 have fly3:Heap.FlyingW B (X.env::X.outer) y (.ref C) a0 (s.heap.push { cls:=.type "tuple", data:=.seq [Value.ref C1,Value.ref C2'].toArray }):=by
  obtain ⟨f1,f2,f3,oe,vs,t,ot,ts,q1,q2,q3,q4,q5,q6,q7,q8,q9⟩:=fly
  exact ⟨fun b o z=>kp b o (f1 b o z),f2,f3.of_keeps fun b o z _=>⟨o,kp b o z,rfl⟩,oe,vs,t,ot,ts,kp _ _ q1,q2,q3,q4,q5,q6,kp _ _ q7,q8,q9⟩
 refine codeAny_handlers_suite (lands_againW fly3 fun h3 fly3' sm3=>?_)
 have I3:=clo h3 fly3'.1 (up.trans sm3)
 exact wpAny_mono (hs y pins _ σ H D (I3.inExc y) q) (fun f s6 sp6=>sp6.outExc I.ok) fun _ _ z=>z.elim
theorem r_Hd {K:W.Frag} {C C1 C2:Addr} {D:Ends} {σ:St} {H:Hp} (e:W.exmAny K (.ref C) [.ref C1,.ref C2]=some true) (h:ts D σ H):tHd K C1 C2 ts C D σ H:=⟨e,h⟩
end
def zPo (C:Addr) (sp:Sp) (gV:List V→List V→List V) (E:XK) (t tk:TA):TE:=fun σ H Q=>t σ H fun vs H1=>tk σ H1 fun zs H2=>∀ x dx,H2 x=none→H2 dx=none→dx≠x →
 sp (gV (.ref x::vs) zs) (upd (upd H2 dx (.own x)) x (.ins C dx [])) (fun v H3=>v = .non∧Q (.ref x) H3) E
section
variable {X : Cx} {CX : CXT} {k : Nat} {f C : Addr} {fd : FuncData} {ps ks : List Str} {sp : Sp} {E : XK} {x m : Str} {p pos apos kpos : Pos} {e o : Expr} {es : List Expr} {kws : List Keyword} {te ta : TE} {t tk : TA} {nm : Option Str}
variable {g : List Value → List Value → List Value} {gV : List V → List V → List V}
theorem zQM {pins : List (Addr × Obj)} {σ : St} {H : Hp} {s : Shared} {Q : VK} {us ws : List Value} {vs zs : List V} (M : Mk X.K C f) (F : FnOk X.prog X.w X.K X.mg X.base CX k f fd ps sp) (hr : Room (k + 1) X.A) (hb : zIz X.K fd ps ks g gV)
    (hx : zEY CX X E) (I : Inv X pins σ H s) (r : Vals vs us) (rz : Vals zs ws)
    (h : ∀ x dx, H x = none → H dx = none → dx ≠ x → sp (gV (.ref x :: vs) zs) (upd (upd H dx (.own x)) x (.ins C dx [])) (fun v H2 => v = .non ∧ Q (.ref x) H2) E) :
    wpAny (model X.prog X.w) X.A (call (.ref C) us (ks.zip ws)) (EP X pins σ Q) X.xe s := by
  have hq := h (s.heap.objs.size + 1) s.heap.objs.size (I.hok.fresh (Nat.le_succ _)) (I.hok.fresh (Nat.le_refl _)) (Nat.ne_of_lt (Nat.lt_succ_self _))
  have I2 := Inv.made (C := C) I
  have r0 : Vals (V.ref (s.heap.objs.size + 1) :: vs) (Value.ref (s.heap.objs.size + 1) :: us) := .cons rfl r
  have r2 := hb.rel r0 rz
  have hl : (g (Value.ref (s.heap.objs.size + 1) :: us) ws).length = ps.length := by rw [← r2.length]; exact F.len _ _ _ _ hq
  refine wpAny_call (zN9 (f := f) I.kIn M.makes M.init (beq_iff_eq.mp M.fn) (codeAny_mono (F.run _ X.stack _ _ ⟨Value.ref (s.heap.objs.size + 1) :: us, ks.zip ws⟩ (g (Value.ref (s.heap.objs.size + 1) :: us) ws) _ _ E (hr.make C us (ks.zip ws))
    (I2.env0.make C us (ks.zip ws)) (hb.to _ (Value.ref (s.heap.objs.size + 1) :: us) ws I2.kIn hl) r2 hq) fun r s' hq' => ?_))
  cases r with
  | error e => exact hx pins σ _ _ e s' I2 hq'
  | ok fl =>
    cases fl with
    | ret u =>
      obtain ⟨v, H', I3, rv, ev, q3⟩ := I2.after hq'
      subst ev
      exact ⟨rv, ⟨V.ref (s.heap.objs.size + 1), H', I3, rfl, q3⟩⟩
    | next => exact False.elim hq'
    | brk => exact False.elim hq'
    | cont => exact False.elim hq'
theorem zRW (M:Mk X.K C f) (F:FnOk X.prog X.w X.K X.mg X.base CX k f fd ps sp) (hr:Room (k+1) X.A) (hg:Gl X x) (hm:X.mg x=some (.ref C)) (hb:zIz X.K fd ps ks g gV) (hx:zEY CX X E)
  (ha:PA X (e::es) t) (hkw:PK X kws tk) (hall:(backToKw pos (keywordEach kws X.env)).all (·.1.isSome)=true:=by rfl) (hks:(backToKw pos (keywordEach kws X.env)).filterMap (·.1)=ks:=by rfl)
  (hdb:(x == ("__debug__" : Str))=false:=by decide) (he:starEach (e::es) X.env=(false,eval e X.env)::starEach es X.env:=by rfl)
  (hpl:((backTo pos (starEach (e::es) X.env)).any (·.1) || (backToKw pos (keywordEach kws X.env)).any (·.1.isNone))=false:=by rfl) :
  PE X (.Call (.Name x p) (e::es) kws pos) (zPo C sp gV E t tk):=by
 intro pins s σ H Q I h
 refine wpAny_Call_Name_kw (zCq I hg hm ?_ hdb)
 refine W.callWith_KW (h₀:=X.base) I.ok.mod.kin M.kp hall (thn (ha pos pins s σ H _ I h) fun us s1 ⟨vs,H1,I1,r,q⟩=>?_) hpl he
 refine thn (hkw pos pins s1 σ H1 _ I1 q) fun ws s2 ⟨zs,H2,I2,rz,q2⟩=>⟨I2.kIn,?_⟩
 rw [hks]
 exact zQM M F hr hb hx I2 r rz q2
end
def zR3 (P:Program) (w:World) (K:W.Frag) (mg:Str→Option Value) (base:Heap) (CX:CXT) (C:Addr) (k:Nat) (ps ks:List Str) (gV:List V→List V→List V) (sp:Sp):Prop:=
 ∃ f fd g,FnOk P w K mg base CX k f fd ps sp∧Mk K C f∧zIz K fd ps ks g gV
section
variable {X : Cx} {CX : CXT} {k n : Nat} {C : Addr} {ps ks : List Str} {sp : Sp} {E : XK} {x m : Str} {p pos apos : Pos} {e o : Expr} {es : List Expr} {kws : List Keyword} {ta : TE} {t tk : TA} {gV : List V → List V → List V}
theorem zJ8 (F:zR3 X.prog X.w X.K X.mg X.base CX C k ps ks gV sp) (hx:zEY CX X E) (hr:Room n X.A) (hg:Gl X x) (hm:X.mg x=some (.ref C)) (ha:PA X (e::es) t) (hkw:PK X kws tk) (hk:k+1≤n:=by decide)
  (hall:(backToKw pos (keywordEach kws X.env)).all (·.1.isSome)=true:=by rfl) (hks:(backToKw pos (keywordEach kws X.env)).filterMap (·.1)=ks:=by rfl)
  (hdb:(x == ("__debug__" : Str))=false:=by decide) (he:starEach (e::es) X.env=(false,eval e X.env)::starEach es X.env:=by rfl)
  (hpl:((backTo pos (starEach (e::es) X.env)).any (·.1) || (backToKw pos (keywordEach kws X.env)).any (·.1.isNone))=false:=by rfl) :
  PE X (.Call (.Name x p) (e::es) kws pos) (zPo C sp gV E t tk):=by
 obtain ⟨f,fd,g,G,M,b⟩:=F
 obtain ⟨m,rfl⟩ : ∃ m,n=m+1:=⟨n - 1,by omega⟩
 exact zRW M (G.mono (by omega)) hr hg hm b hx ha hkw hall hks hdb he hpl
end
section
variable {σ : St} {H : Hp} {Q : VK} {C a : Addr} {m : Str} {sp : Sp} {E : XK} {ta : TE} {t tk : TA} {gV : List V → List V → List V}
def zWa (C:Addr) (sp:Sp) (gV:List V→List V→List V) (E:XK) (Q:VK) (vs:List V):List V→Hp→Prop:=fun zs H2=>∀ x dx,H2 x=none→H2 dx=none→dx≠x →
 sp (gV (.ref x::vs) zs) (upd (upd H2 dx (.own x)) x (.ins C dx [])) (fun v H3=>v = .non∧Q (.ref x) H3) E
theorem zM4 (h:t σ H fun vs H1=>tk σ H1 (zWa C sp gV E Q vs)):zPo C sp gV E t tk σ H Q:=h
end
theorem zNE {K:W.Frag} {fd:FuncData} {ps ks:List Str} {t:Addr} {oc:Value} {od:Option Addr} {it:Array Value} {n:Nat} {osl:Array (Option Value)} {g:List Value→List Value→List Value} {gV:List V→List V→List V} (hl:K.lookup t=some ⟨oc,od,.seq it n,osl⟩) (hd:fd.defaults = .ref t)
  (h : ∀ us ws:List Value,(g us ws).length=ps.length → ∃ k,bindArgs fd ⟨us,ks.zip ws⟩=seqItems? fd.defaults >>= k∧k (some it)=pure (ps.zip (g us ws)))
  (hr : ∀ {vs:List V} {us:List Value} {zs:List V} {ws:List Value},Vals vs us→Vals zs ws→Vals (gV vs zs) (g us ws)):zIz K fd ps ks g gV:=⟨fun s us ws hK hlen=>by
 obtain ⟨k,h1,h2⟩:=h us ws hlen
 exact .of_defaults hd (hK _ _ hl) rfl h1 h2,hr⟩
def kA {α:Type} (a b:Nat) (pl:List (Nat ⊕ α)) (us ws:List α):List α:=bif us.length == a && ws.length == b then pl.filterMap (fun | .inl i=>(us++ws)[i]? | .inr d=>some d) else []
inductive PR:List (Nat ⊕ V)→List (Nat ⊕ Value)→Prop
 | nil:PR [] []
 | pos (i:Nat) {p:List (Nat ⊕ V)} {q:List (Nat ⊕ Value)}:PR p q→PR (.inl i::p) (.inl i::q)
 | dv {v:V} {u:Value} {p:List (Nat ⊕ V)} {q:List (Nat ⊕ Value)} (r:RelV v u):PR p q→PR (.inr v::p) (.inr u::q)
theorem Vals.at? {vs : List V} {us : List Value} (h : Vals vs us) : ∀ i : Nat, (vs[i]? = none ∧ us[i]? = none) ∨ ∃ v u, vs[i]? = some v ∧ us[i]? = some u ∧ RelV v u := by
  induction h with
  | nil => intro i; exact .inl ⟨rfl, rfl⟩
  | cons r _ ih =>
    intro i
    cases i with
    | zero => exact .inr ⟨_, _, rfl, rfl, r⟩
    | succ i => exact ih i
theorem zV7 {a b : Nat} {p : List (Nat ⊕ V)} {q : List (Nat ⊕ Value)} (h : PR p q) {vs zs : List V} {us ws : List Value} (r : Vals vs us) (rz : Vals zs ws) : Vals (kA a b p vs zs) (kA a b q us ws) := by
  unfold kA
  rw [r.length, rz.length]
  cases us.length == a && ws.length == b with
  | false => exact .nil
  | true =>
    show Vals (p.filterMap _) (q.filterMap _)
    induction h with
    | nil => exact .nil
    | @pos i p q _ ih =>
      rcases Vals.at? (r.append rz) i with ⟨e1, e2⟩ | ⟨v, u, e1, e2, e3⟩
      · simp only [List.filterMap_cons, e1, e2]; exact ih
      · simp only [List.filterMap_cons, e1, e2]; exact .cons e3 ih
    | @dv v u p q e3 _ ih =>
      simp only [List.filterMap_cons]; exact .cons e3 ih
theorem zVo {α:Type} {a b:Nat} {p:List (Nat ⊕ α)} {us ws:List α} {n:Nat} (h:(kA a b p us ws).length=n+1):us.length=a∧ws.length=b:=by
 unfold kA at h
 cases e:us.length == a && ws.length == b with
 | false=>rw [e] at h;exact absurd h (by simp)
 | true=>simpa using e
theorem zMn {K:W.Frag} {fd:FuncData} {x:Str} {ps ks:List Str} {a b:Nat} {t:Addr} {oc:Value} {od:Option Addr} {it:Array Value} {n:Nat} {osl:Array (Option Value)} {p:List (Nat ⊕ V)} {q:List (Nat ⊕ Value)} (hl:K.lookup t=some ⟨oc,od,.seq it n,osl⟩) (hd:fd.defaults = .ref t) (hp:PR p q)
  (h : ∀ us ws:List Value,us.length=a→ws.length=b → ∃ k,bindArgs fd ⟨us,ks.zip ws⟩=seqItems? fd.defaults >>= k∧k (some it)=pure ((x::ps).zip (kA a b q us ws))):zIz K fd (x::ps) ks (kA a b q) (kA a b p):=
 zNE hl hd (fun us ws hn=>let ⟨h1,h2⟩:=zVo hn;h us ws h1 h2) (zV7 hp)
theorem relS {x y:Str} {t:Tok} (h:x=y):RelV (.str y) (.str x t):=⟨t,by rw [h]⟩
set_option maxHeartbeats 4000000
section
variable {X : Cx}
theorem zIr : ∀ {us:List Value} {ss:List Str},StrsAre us ss→Vals (ss.map V.str) us
 | _,_,.nil=>.nil
 | _,_,.cons n t h=>.cons ⟨t,rfl⟩ (zIr h)
theorem zKb : ∀ {us:List Value} {ss:List Str},Vals (ss.map V.str) us→StrsAre us ss
 | _,[],.nil=>.nil
 | _,s::ss,.cons ⟨t,e⟩ h=>by subst e;exact .cons s t (zKb h)
def zNm (K:W.Frag):List V→Hp→VK→Prop:=fun xs H Q=>∃ (p:Addr) (ss:List Str),xs=[.ref p]∧SqL K H p (ss.map V.str)∧ss.length < 64 ∧
 ∀ (ms:List Str) (q:Addr) (H':Hp),ms.Perm ss→sortedS ms=true→Same H H'→H' q=some (.lst (ms.map V.str))→Q (.ref q) H'
theorem zMe:zGH X (.builtin "sorted") (zNm X.K):=by
 intro pins s σ H xs us Q I r h
 obtain ⟨p,ss,rfl,hq,h64,q⟩:=h
 obtain ⟨u,rfl,rx⟩:=zO7 r
 cases rx
 obtain ⟨its,r',pl,hz⟩:=I.list hq
 have hl:=r'.length
 rw [List.length_map] at hl hz
 refine sorted_strs pl.isList (zKb r') (by omega) fun out ms hi hp hs=>?_
 obtain ⟨e,he⟩:=sortedAll_at s.heap its out
 have hms:ms.length=ss.length:=hp.length_eq
 have hf:H (s.heap.objs.size+1)=none:=I.hok.fresh (Nat.le_succ _)
 refine ⟨.ref (s.heap.objs.size+1),upd H (s.heap.objs.size+1) (.lst (ms.map V.str)),I.laid (t':=s.toks) (fun _ _=>sortedAll_old) (Nat.le_succ _) ⟨by rw [List.length_map,hms];exact hz,out.toList,e,zIr hi,?_⟩,rfl,q _ _ _ hp hs (zE7 hf _) zAU⟩
 rw [he,Array.toArray_toList]
theorem zVq {ms:List Str} {cs:List (List Nat)} (h:ms.Perm (cs.map T)) : ∃ ds:List (List Nat),ds.Perm cs∧ms=ds.map T:=by
 refine ⟨ms.map Lt,?_,?_⟩
 ·have:=h.map Lt
  rwa [List.map_map,show (Lt ∘ T)=id from funext fun l=>Lt_T l,List.map_id] at this
 ·rw [List.map_map]
  have hm : ∀ s ∈ ms,(T ∘ Lt) s=s:=fun s hs=>by
   obtain ⟨c,_,rfl⟩:=List.mem_map.mp (h.mem_iff.mp hs)
   show T (Lt (T c))=T c
   rw [Lt_T]
  conv=>lhs;rw [← List.map_id ms]
  exact (List.map_congr_left hm).symm
theorem zP9 {K:W.Frag} {H:Hp} {Q:VK} {p:Addr} {cs:List (List Nat)} (h:H p=some (.lst (tsV cs))) (h64:cs.length < 64) (q : ∀ (ds:List (List Nat)) (q:Addr) (H':Hp),ds.Perm cs→Same H H'→H' q=some (.lst (tsV ds))→Q (.ref q) H'):zNm K [.ref p] H Q:=by
 have e:tsV cs=(cs.map T).map V.str:=by unfold tsV;rw [List.map_map];rfl
 refine ⟨p,cs.map T,rfl,SqL.of (e ▸ h),by rw [List.length_map];exact h64,fun ms q' H' hp _ g e'=>?_⟩
 obtain ⟨ds,hd,rfl⟩:=zVq hp
 exact q ds q' H' hd g (by rw [e'];unfold tsV;rw [List.map_map];rfl)
end
end L2
namespace Pw
open PySem L2
set_option maxHeartbeats 4000000
seal PySem.Sem.wp
def top (i:Nat):Stmt:=PySem.Challenge.pw_padwright_k48_widened_and_fields.main.body.getD i (.Pass ⟨0,0,0,0⟩)
abbrev zDC:Stmt:=top 14
theorem zDH:zAR ["number", "base", "text", "left"] ["number", "base"] (zAF zDC):=⟨rfl,rfl,rfl,by decide +kernel,rfl,by decide +kernel,by decide +kernel⟩
abbrev zDn:Stmt:=top 15
theorem zDy:zAR ["text", "base", "number", "sign", "worth"] ["text", "base"] (zAF zDn):=⟨rfl,rfl,rfl,by decide +kernel,rfl,by decide +kernel,by decide +kernel⟩
abbrev zFZ:Stmt:=top 18
theorem zO4:zAR ["text", "size", "mark"] ["text", "size", "mark"] (zAF zFZ):=⟨rfl,rfl,rfl,by decide +kernel,rfl,by decide +kernel,by decide +kernel⟩
abbrev zDo:Stmt:=top 19
theorem zIu:zAR ["text", "size", "mark", "plain"] ["text", "size", "mark"] (zAF zDo):=⟨rfl,rfl,rfl,by decide +kernel,rfl,by decide +kernel,by decide +kernel⟩
abbrev zEJ:Stmt:=top 20
theorem zFs:zAR ["text", "size", "between", "parts", "end"] ["text", "size", "between"] (zAF zEJ):=⟨rfl,rfl,rfl,by decide +kernel,rfl,by decide +kernel,by decide +kernel⟩
abbrev zFX:Stmt:=top 22
theorem zG4:zAR ["number", "base", "places", "point", "size", "mark", "text", "cut", "whole"] ["number", "base", "places", "point", "size", "mark"] (zAF zFX):=⟨rfl,rfl,rfl,by decide +kernel,rfl,by decide +kernel,by decide +kernel⟩
abbrev zDr:Stmt:=top 23
theorem zEx:zAR ["body", "base", "places", "point", "size", "mark", "cut", "whole", "number"] ["body", "base", "places", "point", "size", "mark"] (zAF zDr):=⟨rfl,rfl,rfl,by decide +kernel,rfl,by decide +kernel,by decide +kernel⟩
abbrev zDe:Stmt:=top 24
theorem zI3:zAR ["body", "places", "point", "cut"] ["body", "places", "point"] (zAF zDe):=⟨rfl,rfl,rfl,by decide +kernel,rfl,by decide +kernel,by decide +kernel⟩
abbrev zFb:Stmt:=top 27
theorem zOx:zAR ["style", "below"] ["style", "below"] (zAF zFb):=⟨rfl,rfl,rfl,by decide +kernel,rfl,by decide +kernel,by decide +kernel⟩
abbrev zG3:Stmt:=top 28
theorem zLe:zAR ["body", "style", "below", "ends"] ["body", "style", "below"] (zAF zG3):=⟨rfl,rfl,rfl,by decide +kernel,rfl,by decide +kernel,by decide +kernel⟩
abbrev zEK:Stmt:=top 29
theorem zF1:zAR ["core", "style", "below", "ends", "body"] ["core", "style"] (zAF zEK):=⟨rfl,rfl,rfl,by decide +kernel,rfl,by decide +kernel,by decide +kernel⟩
abbrev zA9:Stmt:=top 30
theorem zFD:zAR ["body"] ["body"] (zAF zA9):=⟨rfl,rfl,rfl,by decide +kernel,rfl,by decide +kernel,by decide +kernel⟩
abbrev zFc:Stmt:=top 32
theorem zKe:zAR ["length", "width", "side", "lacks"] ["length", "width", "side"] (zAF zFc):=⟨rfl,rfl,rfl,by decide +kernel,rfl,by decide +kernel,by decide +kernel⟩
abbrev zHA:Stmt:=top 33
theorem zLa:zAR ["text", "width", "fill", "side", "pads"] ["text", "width", "fill", "side"] (zAF zHA):=⟨rfl,rfl,rfl,by decide +kernel,rfl,by decide +kernel,by decide +kernel⟩
abbrev zCC:Stmt:=top 34
theorem zJI:zAR ["lead", "rest", "width", "fill"] ["lead", "rest", "width", "fill"] (zAF zCC):=⟨rfl,rfl,rfl,by decide +kernel,rfl,by decide +kernel,by decide +kernel⟩
abbrev zEL:Stmt:=top 36
theorem zEd:zAR ["text", "width", "fill", "side", "plains", "length", "ahead", "plain"] ["text", "width", "fill", "side"] (zAF zEL):=⟨rfl,rfl,rfl,by decide +kernel,rfl,by decide +kernel,by decide +kernel⟩
abbrev zBr:Stmt:=top 37
theorem zH8:zAR ["text", "lead", "width", "fill"] ["text", "lead", "width", "fill"] (zAF zBr):=⟨rfl,rfl,rfl,by decide +kernel,rfl,by decide +kernel,by decide +kernel⟩
abbrev zBL:Stmt:=zBi (top 39) 0
theorem zJE:zAR ["self", "width", "fill", "side", "strict"] ["self", "width", "fill", "side", "strict"] (zAF zBL):=⟨rfl,rfl,rfl,by decide +kernel,rfl,by decide +kernel,by decide +kernel⟩
abbrev zCi:Stmt:=zBi (top 39) 1
theorem zJh:zAR ["self", "value", "core"] ["self", "value"] (zAF zCi):=⟨rfl,rfl,rfl,by decide +kernel,rfl,by decide +kernel,by decide +kernel⟩
abbrev zJx:Stmt:=zBi (top 39) 2
theorem zPK:zAR ["self", "text"] ["self", "text"] (zAF zJx):=⟨rfl,rfl,rfl,by decide +kernel,rfl,by decide +kernel,by decide +kernel⟩
abbrev zA5:Stmt:=zBi (top 39) 3
theorem zHi:zAR ["self", "core"] ["self", "core"] (zAF zA5):=⟨rfl,rfl,rfl,by decide +kernel,rfl,by decide +kernel,by decide +kernel⟩
abbrev zBg:Stmt:=zBi (top 39) 5
theorem zHS:zAR ["self", "core", "lead"] ["self", "core"] (zAF zBg):=⟨rfl,rfl,rfl,by decide +kernel,rfl,by decide +kernel,by decide +kernel⟩
abbrev zBM:Stmt:=zBi (top 39) 6
theorem zI9:zAR ["self", "text"] ["self", "text"] (zAF zBM):=⟨rfl,rfl,rfl,by decide +kernel,rfl,by decide +kernel,by decide +kernel⟩
abbrev zEQ:Stmt:=top 41
theorem zMo:zAR ["thing"] ["thing"] (zAF zEQ):=⟨rfl,rfl,rfl,by decide +kernel,rfl,by decide +kernel,by decide +kernel⟩
abbrev zEU:Stmt:=top 42
theorem zGA:zAR ["base", "times", "power", "turn"] ["base", "times"] (zAF zEU):=⟨rfl,rfl,rfl,by decide +kernel,rfl,by decide +kernel,by decide +kernel⟩
abbrev zBy:Stmt:=top 43
theorem zBq:zAR ["one", "other", "greater", "lesser", "rest"] ["one", "other"] (zAF zBy):=⟨rfl,rfl,rfl,by decide +kernel,rfl,by decide +kernel,by decide +kernel⟩
abbrev zEM:Stmt:=top 45
theorem zHf:zAR ["top", "bottom", "divisor"] ["top", "bottom"] (zAF zEM):=⟨rfl,rfl,rfl,by decide +kernel,rfl,by decide +kernel,by decide +kernel⟩
abbrev zCl:Stmt:=top 46
theorem zKM:zAR ["thing"] ["thing"] (zAF zCl):=⟨rfl,rfl,rfl,by decide +kernel,rfl,by decide +kernel,by decide +kernel⟩
abbrev zFg:Stmt:=top 48
theorem zFO:zAR ["value", "base", "places", "way", "top", "bottom", "below", "rest"] ["value", "base", "places", "way"] (zAF zFg):=⟨rfl,rfl,rfl,by decide +kernel,rfl,by decide +kernel,by decide +kernel⟩
abbrev zFh:Stmt:=top 49
theorem zPI:zAR ["below", "rest", "bottom", "way"] ["below", "rest", "bottom", "way"] (zAF zFh):=⟨rfl,rfl,rfl,by decide +kernel,rfl,by decide +kernel,by decide +kernel⟩
abbrev zDB:Stmt:=top 50
theorem zLE:zAR ["k", "base", "places"] ["k", "base", "places"] (zAF zDB):=⟨rfl,rfl,rfl,by decide +kernel,rfl,by decide +kernel,by decide +kernel⟩
abbrev zAc:Stmt:=zBi (top 52) 0
theorem zGV:zAR ["self", "figures", "places", "base", "sign", "size", "mark", "point", "way", "width", "fill", "side", "strict"] ["self", "figures", "places", "base", "sign", "size", "mark", "point", "way", "width", "fill", "side", "strict"] (zAF zAc):=⟨rfl,rfl,rfl,by decide +kernel,rfl,by decide +kernel,by decide +kernel⟩
abbrev zBD:Stmt:=zBi (top 52) 1
theorem zDN:zAR ["self", "value", "k", "body"] ["self", "value"] (zAF zBD):=⟨rfl,rfl,rfl,by decide +kernel,rfl,by decide +kernel,by decide +kernel⟩
abbrev zAm:Stmt:=zBi (top 52) 2
theorem zC8:zAR ["self", "text", "ks"] ["self", "text"] (zAF zAm):=⟨rfl,rfl,rfl,by decide +kernel,rfl,by decide +kernel,by decide +kernel⟩
abbrev zAx:Stmt:=zBi (top 52) 3
theorem zGl:zAR ["self", "width"] ["self", "width"] (zAF zAx):=⟨rfl,rfl,rfl,by decide +kernel,rfl,by decide +kernel,by decide +kernel⟩
abbrev zAw:Stmt:=zBi (top 52) 5
theorem zGq:zAR ["self", "core"] ["self", "core"] (zAF zAw):=⟨rfl,rfl,rfl,by decide +kernel,rfl,by decide +kernel,by decide +kernel⟩
abbrev zAh:Stmt:=zBi (top 52) 6
theorem zEq:zAR ["self", "number"] ["self", "number"] (zAF zAh):=⟨rfl,rfl,rfl,by decide +kernel,rfl,by decide +kernel,by decide +kernel⟩
abbrev zAl:Stmt:=zBi (top 52) 7
theorem zC6:zAR ["self", "text", "below", "ks"] ["self", "text", "below"] (zAF zAl):=⟨rfl,rfl,rfl,by decide +kernel,rfl,by decide +kernel,by decide +kernel⟩
abbrev zAs:Stmt:=zBi (top 52) 8
theorem zCV:zAR ["self", "text", "below", "lead", "cores"] ["self", "text", "below"] (zAF zAs):=⟨rfl,rfl,rfl,by decide +kernel,rfl,by decide +kernel,by decide +kernel⟩
abbrev zAj:Stmt:=zBi (top 52) 9
theorem zB3:zAR ["self", "core", "below", "parts", "number"] ["self", "core", "below"] (zAF zAj):=⟨rfl,rfl,rfl,by decide +kernel,rfl,by decide +kernel,by decide +kernel⟩
abbrev zAk:Stmt:=zBi (top 54) 0
theorem zHO:zAR ["self", "signs", "least", "most", "width", "fill", "side", "strict"] ["self", "signs", "least", "most", "width", "fill", "side", "strict"] (zAF zAk):=⟨rfl,rfl,rfl,by decide +kernel,rfl,by decide +kernel,by decide +kernel⟩
abbrev zBQ:Stmt:=zBi (top 54) 1
theorem zI8:zAR ["self", "value"] ["self", "value"] (zAF zBQ):=⟨rfl,rfl,rfl,by decide +kernel,rfl,by decide +kernel,by decide +kernel⟩
abbrev zAr:Stmt:=zBi (top 54) 2
theorem zGc:zAR ["self", "text"] ["self", "text"] (zAF zAr):=⟨rfl,rfl,rfl,by decide +kernel,rfl,by decide +kernel,by decide +kernel⟩
abbrev zA6:Stmt:=zBi (top 54) 3
theorem zHo:zAR ["self", "width"] ["self", "width"] (zAF zA6):=⟨rfl,rfl,rfl,by decide +kernel,rfl,by decide +kernel,by decide +kernel⟩
abbrev zA8:Stmt:=zBi (top 54) 5
theorem zHn:zAR ["self", "thing"] ["self", "thing"] (zAF zA8):=⟨rfl,rfl,rfl,by decide +kernel,rfl,by decide +kernel,by decide +kernel⟩
abbrev zAd:Stmt:=zBi (top 55) 0
theorem zGU:zAR ["self", "names", "width", "fill", "side", "strict"] ["self", "names", "width", "fill", "side", "strict"] (zAF zAd):=⟨rfl,rfl,rfl,by decide +kernel,rfl,by decide +kernel,by decide +kernel⟩
abbrev zBB:Stmt:=zBi (top 55) 1
theorem zIF:zAR ["self", "value"] ["self", "value"] (zAF zBB):=⟨rfl,rfl,rfl,by decide +kernel,rfl,by decide +kernel,by decide +kernel⟩
abbrev zAn:Stmt:=zBi (top 55) 2
theorem zC9:zAR ["self", "text", "cores"] ["self", "text"] (zAF zAn):=⟨rfl,rfl,rfl,by decide +kernel,rfl,by decide +kernel,by decide +kernel⟩
abbrev zAv:Stmt:=zBi (top 55) 3
theorem zGg:zAR ["self", "width"] ["self", "width"] (zAF zAv):=⟨rfl,rfl,rfl,by decide +kernel,rfl,by decide +kernel,by decide +kernel⟩
abbrev zCk:Stmt:=top 57
theorem zKP:zAR ["_law_script", "_law_k"] ["_law_script", "_law_k"] (zAF zCk):=⟨rfl,rfl,rfl,by decide +kernel,rfl,by decide +kernel,by decide +kernel⟩
abbrev zDd:Stmt:=top 58
theorem zMW:zAR ["_law_thing"] ["_law_thing"] (zAF zDd):=⟨rfl,rfl,rfl,by decide +kernel,rfl,by decide +kernel,by decide +kernel⟩
abbrev zEN:Stmt:=top 59
theorem zF9:zAR ["_law_cell", "_law_salt", "_law_many", "_law_one", "_law_two"] ["_law_cell", "_law_salt", "_law_many"] (zAF zEN):=⟨rfl,rfl,rfl,by decide +kernel,rfl,by decide +kernel,by decide +kernel⟩
abbrev zDk:Stmt:=top 60
theorem zLf:zAR [] [] (zAF zDk):=⟨rfl,rfl,rfl,by decide +kernel,rfl,by decide +kernel,by decide +kernel⟩
abbrev zEI:Stmt:=top 61
theorem zJW:zAR ["_law_cell", "_law_salt", "_law_some"] ["_law_cell", "_law_salt"] (zAF zEI):=⟨rfl,rfl,rfl,by decide +kernel,rfl,by decide +kernel,by decide +kernel⟩
abbrev zBo:Stmt:=top 62
theorem zAo:zAR ["_law_cell", "_law_other", "_law_small", "_law_figures_here", "_law_places", "_law_base", "_law_sign_here", "_law_size", "_law_way", "_law_signs_here", "_law_widths", "_law_width", "_law_side", "_law_strict"] ["_law_cell", "_law_other", "_law_small"] (zAF zBo):=⟨rfl,rfl,rfl,by decide +kernel,rfl,by decide +kernel,by decide +kernel⟩
abbrev zBm:Stmt:=top 63
theorem zAi:zAR ["_law_spec_here", "_law_figures_here", "_law_places", "_law_base", "_law_sign_here", "_law_size", "_law_mark", "_law_point", "_law_way", "_law_width", "_law_fill", "_law_side", "_law_strict"] ["_law_spec_here"] (zAF zBm):=⟨rfl,rfl,rfl,by decide +kernel,rfl,by decide +kernel,by decide +kernel⟩
abbrev zDg:Stmt:=top 64
theorem zEu:zAR ["_law_base", "_law_times", "_law_found", "_law_k"] ["_law_base", "_law_times"] (zAF zDg):=⟨rfl,rfl,rfl,by decide +kernel,rfl,by decide +kernel,by decide +kernel⟩
abbrev zCj:Stmt:=top 65
theorem zHT:zAR ["_law_one", "_law_other"] ["_law_one", "_law_other"] (zAF zCj):=⟨rfl,rfl,rfl,by decide +kernel,rfl,by decide +kernel,by decide +kernel⟩
abbrev zC5:Stmt:=top 66
theorem zIC:zAR ["_law_top", "_law_bottom", "_law_many"] ["_law_top", "_law_bottom"] (zAF zC5):=⟨rfl,rfl,rfl,by decide +kernel,rfl,by decide +kernel,by decide +kernel⟩
abbrev zCm:Stmt:=top 67
theorem zDs:zAR ["_law_number", "_law_base", "_law_found"] ["_law_number", "_law_base"] (zAF zCm):=⟨rfl,rfl,rfl,by decide +kernel,rfl,by decide +kernel,by decide +kernel⟩
abbrev zEP:Stmt:=top 68
theorem zBZ:zAR ["_law_steps_here", "_law_spec_here", "_law_places", "_law_base", "_law_size", "_law_mark", "_law_point", "_law_step", "_law_figures_here", "_law_whole_here", "_law_k", "_law_rest"] ["_law_steps_here", "_law_spec_here"] (zAF zEP):=⟨rfl,rfl,rfl,by decide +kernel,rfl,by decide +kernel,by decide +kernel⟩
abbrev zDi:Stmt:=top 69
theorem zIs:zAR ["_law_steps_here", "_law_spec_here", "_law_body_here"] ["_law_steps_here", "_law_spec_here"] (zAF zDi):=⟨rfl,rfl,rfl,by decide +kernel,rfl,by decide +kernel,by decide +kernel⟩
abbrev zDA:Stmt:=top 70
theorem zEG:zAR ["_law_lead", "_law_rest", "_law_spec_here", "_law_width", "_law_fill", "_law_side", "_law_lacks", "_law_ahead"] ["_law_lead", "_law_rest", "_law_spec_here"] (zAF zDA):=⟨rfl,rfl,rfl,by decide +kernel,rfl,by decide +kernel,by decide +kernel⟩
abbrev zCI:Stmt:=top 71
theorem zBH:zAR ["_law_cell", "_law_other", "_law_small", "_law_start", "_law_step", "_law_signs_here", "_law_least", "_law_most", "_law_fill", "_law_width", "_law_side"] ["_law_cell", "_law_other", "_law_small"] (zAF zCI):=⟨rfl,rfl,rfl,by decide +kernel,rfl,by decide +kernel,by decide +kernel⟩
abbrev zDl:Stmt:=top 72
theorem zBc:zAR ["_law_cell", "_law_many", "_law_signs_here", "_law_base", "_law_way", "_law_at", "_law_size", "_law_step", "_law_found", "_law_k", "_law_sign_here", "_law_turn"] ["_law_cell", "_law_many"] (zAF zDl):=⟨rfl,rfl,rfl,by decide +kernel,rfl,by decide +kernel,by decide +kernel⟩
abbrev zBp:Stmt:=top 73
theorem zB1:zAR ["_law_cell", "_law_other", "_law_small", "_law_names_here", "_law_fill", "_law_width", "_law_side"] ["_law_cell", "_law_other", "_law_small"] (zAF zBp):=⟨rfl,rfl,rfl,by decide +kernel,rfl,by decide +kernel,by decide +kernel⟩
abbrev zDY:Stmt:=top 74
theorem zI0:zAR ["_law_cell", "_law_at", "_law_limit", "_law_one"] ["_law_cell", "_law_at", "_law_limit"] (zAF zDY):=⟨rfl,rfl,rfl,by decide +kernel,rfl,by decide +kernel,by decide +kernel⟩
abbrev zDc:Stmt:=top 75
theorem zDE:zAR ["_law_cell", "_law_limit", "_law_way", "_law_number"] ["_law_cell", "_law_limit"] (zAF zDc):=⟨rfl,rfl,rfl,by decide +kernel,rfl,by decide +kernel,by decide +kernel⟩
abbrev zER:Stmt:=top 76
theorem zNN:zAR ["_law_cell", "_law_signs_here", "_law_size"] ["_law_cell", "_law_signs_here", "_law_size"] (zAF zER):=⟨rfl,rfl,rfl,by decide +kernel,rfl,by decide +kernel,by decide +kernel⟩
abbrev zES:Stmt:=top 77
theorem zHV:zAR ["_law_script", "_law_small", "_law_kind", "_law_one", "_law_other"] ["_law_script", "_law_small"] (zAF zES):=⟨rfl,rfl,rfl,by decide +kernel,rfl,by decide +kernel,by decide +kernel⟩
abbrev zET:Stmt:=top 78
theorem zNP:zAR ["_law_spec_here"] ["_law_spec_here"] (zAF zET):=⟨rfl,rfl,rfl,by decide +kernel,rfl,by decide +kernel,by decide +kernel⟩
abbrev zCR:Stmt:=top 79
theorem zJb:zAR ["_law_value_here", "_law_spec_here"] ["_law_value_here", "_law_spec_here"] (zAF zCR):=⟨rfl,rfl,rfl,by decide +kernel,rfl,by decide +kernel,by decide +kernel⟩
abbrev zEV:Stmt:=top 80
theorem zHZ:zAR ["_law_value_here", "_law_spec_here", "_law_lead", "_law_rest"] ["_law_value_here", "_law_spec_here"] (zAF zEV):=⟨rfl,rfl,rfl,by decide +kernel,rfl,by decide +kernel,by decide +kernel⟩
abbrev zDZ:Stmt:=top 81
theorem zI1:zAR ["_law_cell", "_law_spec_here", "_law_step"] ["_law_cell", "_law_spec_here"] (zAF zDZ):=⟨rfl,rfl,rfl,by decide +kernel,rfl,by decide +kernel,by decide +kernel⟩
abbrev zDG:Stmt:=top 82
theorem zFp:zAR ["_law_form_here", "_law_spec_here", "_law_last", "_law_some"] ["_law_form_here", "_law_spec_here"] (zAF zDG):=⟨rfl,rfl,rfl,by decide +kernel,rfl,by decide +kernel,by decide +kernel⟩
abbrev zEH:Stmt:=top 83
theorem zHq:zAR ["_law_form_here", "_law_value_here", "_law_found"] ["_law_form_here", "_law_value_here"] (zAF zEH):=⟨rfl,rfl,rfl,by decide +kernel,rfl,by decide +kernel,by decide +kernel⟩
abbrev zDf:Stmt:=top 84
theorem zDF:zAR ["_law_spec_here", "_law_form_here", "_law_due", "_law_names_here"] ["_law_spec_here"] (zAF zDf):=⟨rfl,rfl,rfl,by decide +kernel,rfl,by decide +kernel,by decide +kernel⟩
abbrev zLF:Stmt:=top 85
theorem zHw:zAR ["_law_script", "_law_spec_here", "_law_form_here", "_law_width", "_law_wider", "_law_other", "_law_k", "_law_value_here", "_law_text_here"] ["_law_script"] (zAF zLF):=⟨rfl,rfl,rfl,by decide +kernel,rfl,by decide +kernel,by decide +kernel⟩
structure Blt (mg:Str→Option Value):Prop where
 z_len:mg "len" = none
 z_range:mg "range" = none
 z_isinstance:mg "isinstance" = none
 z_str:mg "str" = none
 z_max:mg "max" = none
 z_min:mg "min" = none
 z_int:mg "int" = none
 z_bool:mg "bool" = none
 z_abs:mg "abs" = none
 z_list:mg "list" = none
 z_tuple:mg "tuple" = none
 z_all:mg "all" = none
 z_sorted:mg "sorted" = none
section
variable {P : Program} {w : World} {K : W.Frag} {mg : Str → Option Value} {base : Heap}
local macro_rules | `(tactic| walk_at "sd")=>`(tactic| first | omega | (unfold CPos;omega) | (unfold CNn;omega) | (unfold CNz;omega) | (unfold zWm GL;omega) | (unfold zXP GL;omega) | (unfold zVV CMul zPL GL;omega))
local macro_rules | `(tactic| walk_at "hp")=>`(tactic| first | assumption | (refine Same.at (by assumption) ?_;walk_at "hp") | exact zAU)
local macro_rules | `(tactic| walk_at "sq")=>`(tactic| first | assumption | (refine Same.seq (by assumption) ?_;walk_at "sq") | exact SqL.of (by walk_at "hp"))
local macro_rules | `(tactic| walk_at "sm")=>`(tactic| first | assumption | exact Same.refl _ | (refine Same.trans ?_ (by assumption);walk_at "sm"))
local macro_rules | `(tactic| walk_at "rdc")=>`(tactic| fail "no callee")
local macro_rules | `(tactic| walk_at "rd1")=>`(tactic| first
 | (with_reducible refine zVB ?_)
 | (with_reducible refine zVP ?_)
 | (with_reducible refine zXO ?_)
 | (with_reducible refine zWw ?_)
 | (with_reducible refine zWF ?_)
 | (with_reducible refine zVM ?_)
 | ((with_reducible refine' zXG ?e ?_);(case e=>rfl))
 | (with_reducible refine r_c ?_)
 | (with_reducible refine r_op ?_)
 | (with_reducible refine r_I0 ?_)
 | ((with_reducible refine' r_I ?hc ?_);(case hc=>walk_at "sd"))
 | (with_reducible refine zWR ?_)
 | (with_reducible refine r_tB ?_)
 | (with_reducible refine zVD ?_)
 | (with_reducible refine zXA ?_)
 | (with_reducible refine zWz ?_)
 | (with_reducible refine iteT ?_)
 | (with_reducible refine iteF ?_)
 | (with_reducible refine i_nT ?_)
 | (with_reducible refine i_nF ?_)
 | ((with_reducible refine' i_dP ?hc ?_);(case hc=>omega))
 | ((with_reducible refine' i_dN ?hc ?_);(case hc=>omega))
 | ((with_reducible refine' zXI ?hc ?_);(case hc=>omega))
 | ((with_reducible refine' zW2 ?hc ?_);(case hc=>omega))
 | (with_reducible refine i_d (fun hc=>?_) (fun hc=>?_))
 | (with_reducible refine i_nd (fun hc=>?_) (fun hc=>?_))
 | (with_reducible refine i_b (fun hc=>?_) (fun hc=>?_))
 | (with_reducible refine zVE ?_)
 | (with_reducible refine zWI ?_)
 | (with_reducible refine zVk ?_)
 | (with_reducible refine r_cb ?_)
 | (with_reducible refine r_un ?_)
 | (with_reducible refine r_U ?_)
 | (with_reducible refine zW5 ?_)
 | (with_reducible refine r_or ?_)
 | (with_reducible refine zXQ ?_)
 | (with_reducible refine zU8 ?_)
 | (with_reducible refine zW3 ?_)
 | (with_reducible refine zWe ?_)
 | (with_reducible refine zTn ?_)
 | (with_reducible refine zW4 ?_)
 | (with_reducible refine zWj ?_)
 | ((with_reducible refine' zWM ?hz ?_);(case hz=>exact small (by simp only [List.length_cons,List.length_nil];decide));intro p' H' g' e')
 | (with_reducible refine zRQ ?_)
 | (with_reducible refine zRD ?_)
 | (with_reducible refine zRK ?_)
 | ((with_reducible refine' zSH ?h ?_);(case h=>walk_at "hp"))
 | ((with_reducible refine' zIk ?h ?e ?_);(case h=>walk_at "hp");(case e=>rfl))
 | ((with_reducible refine' zW0 ?h ?hi (fun hi'=>?_) (fun hi'=>?_));(case h=>walk_at "hp");(case hi=>omega))
 | (with_reducible refine zVF (fun k' hk'=>?_))
 | (with_reducible refine zTk (fun k' hk'=>?_))
 | (with_reducible refine zTh (fun k' hk'=>?_))
 | ((with_reducible refine' zTl ?h ?_);(case h=>walk_at "hp"))
 | ((with_reducible refine' zSn ?h ?_);(case h=>walk_at "sq"))
 | (with_reducible refine zXT ?_)
 | (with_reducible refine zXM ?_)
 | (with_reducible refine zWs ?_)
 | (with_reducible refine zUx ?_)
 | ((with_reducible refine' zVU ?h ?n ?_);(case h=>walk_at "hp");(case n=>rfl))
 | (with_reducible refine zTm ?_)
 | (with_reducible refine zUz ?_)
 | (with_reducible refine zUv ?_)
 | walk_at "rdc"
 | fail "rd stops")
local macro_rules | `(tactic| walk_at "rd")=>`(tactic| repeat' walk_at "rd1")
local macro_rules | `(tactic| walk_at "st")=>`(tactic| dsimp only [L2.start,List.map,List.length,List.replicate,List.append,HAppend.hAppend,Append.append,Nat.reduceAdd,Nat.reduceSub])
local macro_rules | `(tactic| walk_at "rdc")=>`(tactic| first
 | (with_reducible refine zTM ?_)
 | (with_reducible refine zRv ?_)
 | (with_reducible refine zWK ?_)
 | (with_reducible refine zUI ?_)
 | (with_reducible refine zUS ?_)
 | (with_reducible refine zTs ?_)
 | (with_reducible refine zUt ?_)
 | (with_reducible refine zXH ?_)
 | ((with_reducible refine' zOn (b:=true) ?e ?_);(case e=>exact decide_eq_true rfl))
 | ((with_reducible refine' zOn (b:=false) ?e ?_);(case e=>exact (by decide +kernel)))
 | fail "rd2 stops")
local macro_rules | `(tactic| walk_at "odd")=>`(tactic| first | assumption | exact .non | exact .bl _ | exact .str _ | exact .lst (by walk_at "hp") | exact .tup (by walk_at "hp") | exact .dct (by walk_at "hp") | (refine Odd.same ?_ (by assumption);walk_at "odd"))
local macro_rules | `(tactic| walk_at "rdc")=>`(tactic| first
 | (with_reducible refine zQO ?_)
 | (with_reducible refine zV8 ?_)
 | ((with_reducible refine' zSk ?h ?_);(case h=>walk_at "sq"))
 | fail "rd3 stops")
local macro_rules | `(tactic| walk_at "tl")=>`(tactic| first | omega | (simp only [Lt_T,List.length_append,List.length_replicate,List.length_cons,List.length_nil,List.length_take,List.length_drop];omega) | (with_unfolding_all decide))
local macro_rules | `(tactic| walk_at "rdc")=>`(tactic| first
 | ((with_reducible refine' zT6 ?hz ?_);(case hz=>walk_at "tl"))
 | ((with_reducible refine' zSs ?hz ?_);(case hz=>walk_at "tl"))
 | ((with_reducible refine' zTo ?hz ?_);(case hz=>walk_at "tl"))
 | ((with_reducible refine' zSl ?hz ?_);(case hz=>walk_at "tl"))
 | ((with_reducible refine' zJ5 (z:=Str.ofString _) 94 ?hn ?hz ?h0 ?h1 ?_);(case hn=>decide +kernel);(case hz=>decide);(case h0=>omega);(case h1=>omega);intro c' hc')
 | ((with_reducible refine' zJ5 (z:=Str.ofString _) 16 ?hn ?hz ?h0 ?h1 ?_);(case hn=>decide +kernel);(case hz=>decide);(case h0=>omega);(case h1=>omega);intro c' hc')
 | ((with_reducible refine' zJ5 (z:=Str.ofString _) 8 ?hn ?hz ?h0 ?h1 ?_);(case hn=>decide +kernel);(case hz=>decide);(case h0=>omega);(case h1=>omega);intro c' hc')
 | ((with_reducible refine' zJ5 (z:=Str.ofString _) 32 ?hn ?hz ?h0 ?h1 ?_);(case hn=>decide +kernel);(case hz=>decide);(case h0=>omega);(case h1=>omega);intro c' hc')
 | ((with_reducible refine' zJ5 (z:=Str.ofString _) 13 ?hn ?hz ?h0 ?h1 ?_);(case hn=>decide +kernel);(case hz=>decide);(case h0=>omega);(case h1=>omega);intro c' hc')
 | ((with_reducible refine' zJ5 (z:=Str.ofString _) 17 ?hn ?hz ?h0 ?h1 ?_);(case hn=>decide +kernel);(case hz=>decide);(case h0=>omega);(case h1=>omega);intro c' hc')
 | ((with_reducible refine' zJ5 (z:=Str.ofString _) 5 ?hn ?hz ?h0 ?h1 ?_);(case hn=>decide +kernel);(case hz=>decide);(case h0=>omega);(case h1=>omega);intro c' hc')
 | ((with_reducible refine' zVZ ?hz ?h0 ?h1 ?_);(case hz=>walk_at "tl");(case h0=>omega);(case h1=>walk_at "tl"))
 | ((with_reducible refine' zR5 ?hz ?h0 ?h1 ?_);(case hz=>walk_at "tl");(case h0=>omega);(case h1=>walk_at "tl"))
 | ((with_reducible refine' zTd ?hz ?h1 ?_);(case hz=>walk_at "tl");(case h1=>walk_at "tl"))
 | ((with_reducible refine' zT0 ?hz ?h0 ?_);(case hz=>walk_at "tl");(case h0=>omega))
 | ((with_reducible refine' zTb ?hz ?h0 ?_);(case hz=>walk_at "tl");(case h0=>omega))
 | ((with_reducible refine' zR7 ?hz ?h0 ?h1 ?_);(case hz=>walk_at "tl");(case h0=>omega);(case h1=>omega))
 | ((with_reducible refine' zQR ?h0 ?h1 ?_);(case h0=>omega);(case h1=>omega))
 | (with_reducible refine zRI ?_)
 | ((with_reducible refine' zOn (b:=true) ?e ?_);(case e=>exact decide_eq_true rfl))
 | ((with_reducible refine' zOn (b:=false) ?e ?_);(case e=>exact (by decide +kernel)))
 | ((with_reducible refine' zTS (b:=true) ?e ?_);(case e=>exact decide_eq_true rfl))
 | ((with_reducible refine' zTS (b:=false) ?e ?_);(case e=>exact (by decide +kernel)))
 | (with_reducible refine zS1 ?_)
 | (with_reducible refine zSx ?_)
 | (with_reducible refine zSr ?_)
 | (with_reducible refine zPc ?_)
 | (with_reducible refine zV8 ?_)
 | (with_reducible refine zXR ?_)
 | (with_reducible refine zPs ?_)
 | fail "rd4 stops")
local macro_rules | `(tactic| walk_at "rdc")=>`(tactic| first
 | (with_reducible refine zWc ?_)
 | ((with_reducible refine' zOn (x:=T _) (b:=true) ?e ?_);(case e=>exact decide_eq_true rfl))
 | (with_reducible refine zS1 ?_)
 | ((with_reducible refine' zTS (x:=T _) (b:=true) ?e ?_);(case e=>exact decide_eq_true rfl))
 | (with_reducible refine zSx ?_)
 | fail "rd5 stops")
local macro_rules | `(tactic| walk_at "rdc")=>`(tactic| first
 | (with_reducible refine zWQ ?_)
 | ((with_reducible refine' zVH ?h ?h0 ?h1 ?_);(case h=>walk_at "sq");(case h0=>omega);(case h1=>omega))
 | fail "rd6 stops")
local macro_rules | `(tactic| walk_at "asc")=>`(tactic| first | assumption | exact Asc.nil | exact Asc.one (by omega) | exact Asc.app (by walk_at "asc") (by walk_at "asc") | exact Asc.take (by walk_at "asc") _ | exact Asc.drop (by walk_at "asc") _ | exact Asc.rep (by walk_at "asc") _)
local macro_rules | `(tactic| walk_at "rdc")=>`(tactic| first
 | fail "rd7 stops")
local macro_rules | `(tactic| walk_at "rdc")=>`(tactic| first
 | (with_reducible refine zT1 ?_)
 | fail "rd8 stops")
local macro_rules | `(tactic| walk_at "sqt")=>`(tactic| first | assumption | exact SqT.same (by assumption) (by assumption) | exact SqT.same (SqT.same (by assumption) (by assumption)) (by assumption) | exact SqT.of (by walk_at "hp"))
local macro_rules | `(tactic| walk_at "rdc")=>`(tactic| first
 | ((with_reducible refine' zTO ?h ?e ?_);(case h=>walk_at "sqt");(case e=>rfl))
 | fail "rd9 stops")
local macro_rules | `(tactic| walk_at "rdc")=>`(tactic| first
 | (with_reducible refine zVf ?_)
 | ((with_reducible refine' zXJ ?h ?_);(case h=>first | assumption | omega))
 | (with_reducible refine zUd ?_)
 | fail "rd10 stops")
local macro_rules | `(tactic| walk_at "rdc")=>`(tactic| first
 | ((with_reducible refine' zWr ?h0 ?h1 ?_);(case h0=>omega);(case h1=>omega))
 | fail "rd11 stops")
local macro_rules | `(tactic| walk_at "rdc")=>`(tactic| first
 | ((with_reducible refine' zWG ?h ?_);(case h=>walk_at "sq"))
 | ((with_reducible refine' zUf ?h ?_);(case h=>walk_at "sq"))
 | ((with_reducible refine' zTZ ?h ?h0 ?_);(case h=>walk_at "sq");(case h0=>omega))
 | ((with_reducible refine' zNp ?h ?_);(case h=>walk_at "sq");intro l' H' g' n' e')
 | (with_reducible refine zRB ?_)
 | ((with_reducible refine' zSk ?h ?_);(case h=>walk_at "sq"))
 | (with_reducible refine zWQ ?_)
 | fail "rd12 stops")
local macro_rules | `(tactic| walk_at "rdc")=>`(tactic| first
 | (with_reducible refine zW6 ?_)
 | fail "rd13 stops")
local macro_rules | `(tactic| walk_at "fm")=>`(tactic| first | assumption | (refine' zAZ.same (by assumption) ?_;walk_at "fm"))
local macro_rules | `(tactic| walk_at "fld2")=>`(tactic| fail "no own field")
local macro_rules | `(tactic| walk_at "fld")=>`(tactic| first | (exact zAZ.width (by walk_at "fm")) | (exact zAZ.fill (by walk_at "fm")) | (exact zAZ.side (by walk_at "fm")) | (exact zAZ.strict (by walk_at "fm")) | walk_at "fld2")
local macro_rules | `(tactic| walk_at "wk")=>`(tactic| repeat (first | exact Wk.nil | refine Wk.one ?_ | refine Wk.any ?_))
local macro_rules | `(tactic| walk_at "rdc")=>`(tactic| first
 | (with_reducible refine zW1 ?_)
 | (with_reducible refine zQO ?_)
 | ((with_reducible refine' zWi ?h ?_);(case h=>walk_at "fld"))
 | (with_reducible refine zJ0 ?_)
 | ((with_reducible refine' zHh ?h ?_);(case h=>walk_at "ins"))
 | (with_reducible refine zTp ?_)
 | (with_reducible refine zUJ ?_)
 | ((with_reducible refine' r_wk ?h ?_);(case h=>walk_at "wk"))
 | (with_reducible refine zVC ?_)
 | (with_reducible refine zUm ?_)
 | (with_reducible refine zU9 ?_)
 | (with_reducible refine zUi ?_)
 | (with_reducible refine zUX ?_)
 | (with_reducible refine zWJ ?_)
 | ((with_reducible refine' zW8 ?h ?_);(case h=>walk_at "sq"))
 | fail "rd14 stops")
local macro_rules | `(tactic| walk_at "rd1")=>`(tactic| first | ((with_reducible refine' zOM ?h ?e ?_);(case h=>walk_at "sq");(case e=>rfl)) | fail "no written place")
def lowS (t b:Int):Int:=if b < 0 then -(Int.gcd t b:Int) else (Int.gcd t b:Int)
def low1 (t b:Int):Int:=t.fdiv (lowS t b)
def low2 (t b:Int):Int:=b.fdiv (lowS t b)
theorem zRJ {g l:Int} (hg:0≤g) (hl:0 < l):Int.gcd l (g % l)=Int.gcd g l:=by
 rw [Int.gcd_comm g l]
 have e:g % l=g+l*(-(g / l)):=by
  have:=Int.emod_add_mul_ediv g l
  rw [Int.mul_neg];omega
 rw [e,Int.gcd_add_mul_left_right]
theorem zPr (t b:Int):lowS t b ∣ t:=by
 unfold lowS;split
 ·exact (Int.neg_dvd).mpr (Int.gcd_dvd_left ..)
 ·exact Int.gcd_dvd_left ..
theorem zQ2 (t b:Int):lowS t b ∣ b:=by
 unfold lowS;split
 ·exact (Int.neg_dvd).mpr (Int.gcd_dvd_right ..)
 ·exact Int.gcd_dvd_right ..
theorem zKy {t b:Int} (h:0 < b):0 < lowS t b:=by
 unfold lowS;rw [if_neg (by omega)]
 have:0 < Int.gcd t b:=Int.gcd_pos_of_ne_zero_right _ (by omega)
 omega
theorem zLG (t b:Int):low1 t b*lowS t b=t:=by
 unfold low1;exact Int.fdiv_mul_cancel (zPr t b)
theorem zJL (t b:Int):low2 t b*lowS t b=b:=by
 unfold low2;exact Int.fdiv_mul_cancel (zQ2 t b)
theorem zJQ {t b:Int} (h:0 < b):0 < low2 t b:=by
 have h1:=zKy (t:=t) h
 have h2:=zJL t b
 rcases Int.lt_trichotomy 0 (low2 t b) with h3 | h3 | h3
 ·exact h3
 ·rw [← h3] at h2;simp at h2;omega
 ·have:=Int.mul_neg_of_neg_of_pos h3 h1;omega
theorem zP4 {t b:Int} (h:0 < b):low2 t b≤b:=by
 have h1:=zKy (t:=t) h
 have h2:=zJL t b
 have h3:=zJQ (t:=t) h
 have:=Int.mul_le_mul_of_nonneg_left (show 1≤lowS t b by omega) (Int.le_of_lt h3)
 omega
theorem zTu {t b L:Int} (h:0 < b) (h1 : -L < t) (h2:t < L) : -L < low1 t b∧low1 t b < L:=by
 have h3:=zKy (t:=t) h
 have h4:=zLG t b
 rcases Int.lt_or_le (low1 t b) 0 with h5 | h5
 ·have:=Int.mul_le_mul_of_nonneg_left (show 1≤lowS t b by omega) (show 0 ≤ -low1 t b by omega)
  simp only [Int.neg_mul,Int.mul_one] at this;omega
 ·have:=Int.mul_le_mul_of_nonneg_left (show 1≤lowS t b by omega) h5
  omega
theorem zVT {t b L:Int} (h:0 < b) (h':b < L) (h1 : -L < t) (h2:t < L) : -L < low1 t b∧low1 t b < L∧0 < low2 t b∧low2 t b < L:=by
 have a1:=zTu h h1 h2
 have a2:=zJQ (t:=t) h
 have a3:=zP4 (t:=t) h
 exact ⟨a1.1,a1.2,a2,by omega⟩
theorem zUQ {a b g l:Int} (h1:(0≤a∧g=a)∨(a < 0∧g = -a)) (h2:(0≤b∧l=b)∨(b < 0∧l = -b)):0≤g∧0≤l∧Int.gcd g l=Int.gcd a b:=by
 rcases h1 with ⟨h,rfl⟩ | ⟨h,rfl⟩ <;> rcases h2 with ⟨h',rfl⟩ | ⟨h',rfl⟩ <;> simp only [Int.gcd_neg,Int.neg_gcd,and_true] <;> omega
theorem zWL {x y L M:Int} (h1 : -L < x) (h2:x < L) (h3:0 < y) (h4:y < M) : -(L*M) < x*y∧x*y < L*M:=by
 have hL:0 < L:=by omega
 have hM:0 < M:=by omega
 have e : ∀ z:Int,0≤z→z < L→z*y < L*M:=fun z p q =>
  Int.lt_of_le_of_lt (Int.mul_le_mul_of_nonneg_right (Int.le_of_lt q) (Int.le_of_lt h3)) (Int.mul_lt_mul_of_pos_left h4 hL)
 rcases Int.lt_or_le x 0 with p | p
 ·have a1:=e (-x) (by omega) (by omega)
  have a2:=Int.mul_pos hL hM
  have a3:=Int.mul_nonneg (show 0 ≤ -x by omega) (Int.le_of_lt h3)
  rw [Int.neg_mul] at a1 a3;omega
 ·have a1:=e x p h2
  have a2:=Int.mul_pos hL hM
  have a3:=Int.mul_nonneg p (Int.le_of_lt h3)
  omega
def GrB (a b:Int):Prop:=-10000000000000000000000000000000000000000000000000000000000000000000000000000000000000000000000000000000000000000000000000000000000000000000000000000000000000000000000000000000000000000000000 < a∧a < 10000000000000000000000000000000000000000000000000000000000000000000000000000000000000000000000000000000000000000000000000000000000000000000000000000000000000000000000000000000000000000000000∧0 < b∧b < 10000000000000000000000000000000000000000000000000000000000000000000000000000000000000000000000000000000000000000000000000000000000000000000000000000000000000000000000000000000000000000000000
def Way (w:Str):Prop:=w = "down" ∨ w = "up" ∨ w = "cut" ∨ w = "near" ∨ w = "even"
def upB (w:Str) (be re bo:Int):Bool:=if w = "down" then false else if w = "up" then true else if w = "cut" then decide (be < 0) else if 2*re=bo then (decide (w = "near") || decide (be % 2=1)) else decide (2*re > bo)
def grid (w:Str) (a b P:Int):Int:=if 0 < a*P % b∧upB w (a*P / b) (a*P % b) b=true then a*P / b+1 else a*P / b
theorem zTa {be re bo:Int}:upB "down" be re bo=false:=by unfold upB;rw [if_pos rfl]
theorem zXS {be re bo:Int}:upB "up" be re bo=true:=by unfold upB;rw [if_neg (by decide +kernel),if_pos rfl]
theorem zVN {be re bo:Int}:upB "cut" be re bo=decide (be < 0):=by unfold upB;rw [if_neg (by decide +kernel),if_neg (by decide +kernel),if_pos rfl]
theorem zT7 {be re bo:Int} (h:2*re=bo):upB "near" be re bo=true:=by unfold upB;rw [if_neg (by decide +kernel),if_neg (by decide +kernel),if_neg (by decide +kernel),if_pos h,decide_eq_true rfl];rfl
theorem zQ7 {be re bo:Int} (h : ¬ 2*re=bo):upB "near" be re bo=decide (2*re > bo):=by unfold upB;rw [if_neg (by decide +kernel),if_neg (by decide +kernel),if_neg (by decide +kernel),if_neg h]
theorem zT9 {be re bo:Int} (h:2*re=bo):upB "even" be re bo=decide (be % 2=1):=by unfold upB;rw [if_neg (by decide +kernel),if_neg (by decide +kernel),if_neg (by decide +kernel),if_pos h,decide_eq_false (by decide +kernel)];rfl
theorem zSC {be re bo:Int} (h : ¬ 2*re=bo):upB "even" be re bo=decide (2*re > bo):=by unfold upB;rw [if_neg (by decide +kernel),if_neg (by decide +kernel),if_neg (by decide +kernel),if_neg h]
theorem zOu {b : Int} (h1 : 2 ≤ b) (h2 : b ≤ 16) : ∀ n : Nat, 1 ≤ b ^ n ∧ b ^ n ≤ 16 ^ n
  | 0 => by simp
  | n + 1 => by
    obtain ⟨p, q⟩ := zOu h1 h2 n
    rw [Int.pow_succ, Int.pow_succ]
    have a1 := Int.mul_le_mul p (show 1 ≤ b by omega) (by decide) (by omega)
    have a2 := Int.mul_le_mul q h2 (by omega) (by omega)
    omega
theorem zNK {n m : Nat} (h : n ≤ m) : (16 : Int) ^ n ≤ 16 ^ m := by
  induction h with
  | refl => exact Int.le_refl _
  | step h ih =>
    rename_i m
    have := (zOu (b := 16) (by decide) (by decide) m).1
    rw [Int.pow_succ]; omega
theorem pw6 {b t:Int} (h1:2≤b) (h2:b≤16) (h3:t≤6):1≤b ^ t.toNat∧b ^ t.toNat≤16777216:=by
 have a:=zOu h1 h2 t.toNat
 have b:=zNK (n:=t.toNat) (m:=6) (by omega)
 have c:(16:Int) ^ 6=16777216:=by decide
 omega
theorem pw60 {b:Int} {n:Nat} (h1:2≤b) (h2:b≤16) (h3:n≤60):1≤b ^ n∧b ^ n≤1766847064778384329583297500742918515827483896875618958121606201292619776:=by
 have a:=zOu h1 h2 n
 have b:=zNK (n:=n) (m:=60) (by omega)
 have c:(16:Int) ^ 60=1766847064778384329583297500742918515827483896875618958121606201292619776:=by decide +kernel
 omega
theorem zWt (t:Int) {b:Int} (h:0 < b):t / b*b≤t∧t < (t / b+1)*b∧t / b*b=t - t % b∧0≤t % b∧t % b < b:=by
 have e:=Int.emod_add_mul_ediv t b
 have m0:=Int.emod_nonneg t (show b≠0 by omega)
 have m1:=Int.emod_lt_of_pos t h
 rw [Int.add_mul,Int.one_mul,Int.mul_comm (t / b) b]
 omega
def zDX (K:W.Frag):Sp:=fun vs H Q _=>∃ b t:Int,vs=[.int b,.int t]∧2≤b∧b≤16∧0≤t∧t≤60∧Q (.int (b ^ t.toNat)) H
theorem zPC {K:W.Frag} {b t:Int} {H:Hp} {Q:VK} {E:XK} (h1:2≤b) (h2:b≤16) (h3:0≤t) (h4:t≤60) (q:Q (.int (b ^ t.toNat)) H):zDX K ([.int b,.int t]++[]) H Q E:=⟨b,t,rfl,h1,h2,h3,h4,q⟩
def zHC (K:W.Frag):Sp:=fun vs H Q _=>∃ (be re bo:Int) (w:Str),vs=[.int be,.int re,.int bo,.str w]∧Way w∧0≤re∧re < 10000000000000000000000000000000000000000000000000000000000000000000000000000000000000000000000000000000000000000000000000000000000000000000000000000000000000000000000000000000000000000000000∧Q (.bl (upB w be re bo)) H
theorem zQr {K:W.Frag} {be re bo:Int} {w:Str} {H:Hp} {Q:VK} {E:XK} (h1:Way w) (h2:0≤re) (h3:re < 10000000000000000000000000000000000000000000000000000000000000000000000000000000000000000000000000000000000000000000000000000000000000000000000000000000000000000000000000000000000000000000000) (q:Q (.bl (upB w be re bo)) H):zHC K ([.int be,.int re,.int bo,.str w]++[]) H Q E:=⟨be,re,bo,w,rfl,h1,h2,h3,q⟩
def zG1 (K:W.Frag):Sp:=fun vs H Q _=>∃ (p:Addr) (a b B t:Int) (w:Str),vs=[.ref p,.int B,.int t,.str w]∧H p=some (.tup [.int a,.int b])∧GrB a b∧2≤B∧B≤16∧0≤t∧t≤6∧Way w∧Q (.int (grid w a b (B ^ t.toNat))) H
theorem zQh {K:W.Frag} {p:Addr} {a b B t:Int} {w:Str} {H:Hp} {Q:VK} {E:XK} (h1:H p=some (.tup [.int a,.int b])) (h2:GrB a b) (h3:2≤B) (h4:B≤16) (h5:0≤t) (h6:t≤6) (h7:Way w) (q:Q (.int (grid w a b (B ^ t.toNat))) H):zG1 K ([.ref p,.int B,.int t,.str w]++[]) H Q E:=⟨p,a,b,B,t,w,rfl,h1,h2,h3,h4,h5,h6,h7,q⟩
def zCv (K:W.Frag):Sp:=fun vs H Q _=>∃ (a:Addr) (ns:List Int) (k:Int),vs=[.ref a,.int k]∧SqL K H a (ns.map V.int)∧0≤k ∧ ∀ v:Int,Q (.int v) H
theorem zVv {K:W.Frag} {a:Addr} {ns:List Int} {k:Int} {H:Hp} {Q:VK} {E:XK} (h1:SqL K H a (ns.map V.int)) (h2:0≤k) (q : ∀ v:Int,Q (.int v) H):zCv K ([.ref a,.int k]++[]) H Q E:=⟨a,ns,k,rfl,h1,h2,q⟩
def zBa (K:W.Frag):Sp:=fun vs H Q _=>∃ c t m:Int,vs=[.int c,.int t,.int m]∧0≤t∧0 < m ∧ ∀ v:Int,0≤v→v < m→Q (.int v) H
theorem zVW {K:W.Frag} {c t m:Int} {H:Hp} {Q:VK} {E:XK} (h1:0≤t) (h2:0 < m) (q : ∀ v:Int,0≤v→v < m→Q (.int v) H):zBa K ([.int c,.int t,.int m]++[]) H Q E:=⟨c,t,m,rfl,h1,h2,q⟩
def zFm (K:W.Frag):Sp:=fun vs H Q _=>∃ (n w:Int) (x:Str),vs=[.int n,.int w,.str x]∧Side x∧0≤n∧w≤40 ∧ ∀ p H',Same H H'→H' p=some (.tup [.int (pA x n w),.int (pB x n w)])→Q (.ref p) H'
theorem zPM {K:W.Frag} {n w:Int} {x:Str} {H:Hp} {Q:VK} {E:XK} (h1:Side x) (h2:0≤n) (h3:w≤40) (q : ∀ p H',Same H H'→H' p=some (.tup [.int (pA x n w),.int (pB x n w)])→Q (.ref p) H'):zFm K ([.int n,.int w,.str x]++[]) H Q E:=⟨n,w,x,rfl,h1,h2,h3,q⟩
def zFn (K:W.Frag):Sp:=fun vs H Q _=>∃ (t:List Nat) (w:Int) (f:Nat) (x:Str),vs=[.str (T t),.int w,.str (T [f]),.str x]∧Side x∧t.length≤400∧w≤40 ∧ ∀ H',Same H H'→Q (.str (T (pad t w f x))) H'
theorem zNw {K:W.Frag} {t:List Nat} {w:Int} {f:Nat} {x:Str} {H:Hp} {Q:VK} {E:XK} (h1:Side x) (h2:t.length≤400) (h3:w≤40) (q : ∀ H',Same H H'→Q (.str (T (pad t w f x))) H'):zFn K ([.str (T t),.int w,.str (T [f]),.str x]++[]) H Q E:=⟨t,w,f,x,rfl,h1,h2,h3,q⟩
local macro_rules | `(tactic| walk_at "rdc")=>`(tactic| ((with_reducible refine' zVW ?h1 ?h2 ?_);(case h1=>omega);(case h2=>omega);intro v' h0' h1'))
local macro_rules | `(tactic| walk_at "rdc")=>`(tactic| ((with_reducible refine' zVv ?h1 ?h2 ?_);(case h1=>walk_at "sq");(case h2=>omega);intro v'))
local macro_rules | `(tactic| walk_at "rdc")=>`(tactic| ((with_reducible refine' zPM ?h1 ?h2 ?h3 ?_);(case h1=>first | assumption | exact .inl rfl | exact .inr (.inl rfl) | exact .inr (.inr rfl));(case h2=>omega);(case h3=>omega);intro p' H' g' e'))
local macro_rules | `(tactic| walk_at "rdc")=>`(tactic| ((with_reducible refine' zNw ?h1 ?h2 ?h3 ?_);(case h1=>first | assumption | exact .inl rfl | exact .inr (.inl rfl) | exact .inr (.inr rfl));(case h2=>walk_at "tl");(case h3=>omega);intro H' g'))
theorem zS5 {c:Nat} {H:Hp} {Q:VK} (h:c < 127) (q:Q (.int (fv c)) H):zQo (.str "0123456789abcdef") [.str (T [c])] H Q:=zPs (by rw [zUk h];exact q)
theorem zWy {i:Int} {H:Hp} {Q:VK} (h0:0≤i) (h1:i < 16) (q:Q (.str (T [fc i.toNat])) H):rIxS (.str "0123456789abcdef") (.int i) H Q:=by
 have e:(Lt "0123456789abcdef").length=16:=by decide +kernel
 exact zR5 (by omega) h0 (by omega) q
theorem zUH {n:Int} {H:Hp} {Q:VK} (h1:n < 16777216) (h2 : -16777216 < n) (q:Q (.str (T (List.replicate n.toNat 48))) H):zS9 (.str "0") (.int n) H Q:=by
 have e:("0" : Str)=T [48]:=by decide +kernel
 rw [e];exact zQR h1 h2 q
local macro_rules | `(tactic| walk_at "rdc")=>`(tactic| ((with_reducible refine' zUH ?h1 ?h2 ?_);(case h1=>omega);(case h2=>omega)))
local macro_rules | `(tactic| walk_at "rdc")=>`(tactic| ((with_reducible refine' zS5 ?h1 ?_);(case h1=>first | omega | assumption)))
local macro_rules | `(tactic| walk_at "rdc")=>`(tactic| ((with_reducible refine' zWy ?h1 ?h2 ?_);(case h1=>omega);(case h2=>omega)))
def zEF (K:W.Frag):Sp:=fun vs H Q _=>∃ n b:Int,vs=[.int n,.int b]∧0≤n∧2≤b∧b≤16∧n < 1766847064778384329583297500742918515827483896875618958121606201292619776∧(∀ l,l=figs b.toNat n.toNat→FigB b l→val b l=n→0 < l.length→l.length≤240→(l.getD 0 0=48→l=[48])→Q (.str (T l)) H)
theorem zL3 {K:W.Frag} {n b:Int} {H:Hp} {Q:VK} {E:XK} (h1:0≤n) (h2:2≤b) (h3:b≤16) (h4:n < 1766847064778384329583297500742918515827483896875618958121606201292619776) (q:(∀ l,l=figs b.toNat n.toNat→FigB b l→val b l=n→0 < l.length→l.length≤240→(l.getD 0 0=48→l=[48])→Q (.str (T l)) H)):zEF K ([.int n,.int b]++[]) H Q E:=⟨n,b,rfl,h1,h2,h3,h4,q⟩
local macro_rules | `(tactic| walk_at "rdc")=>`(tactic| ((with_reducible refine' zL3 ?h1 ?h2 ?h3 ?h4 ?_);(case h1=>omega);(case h2=>omega);(case h3=>omega);(case h4=>omega);intro l' el' f1' f2' f3' f4' f5'))
def zEg (K:W.Frag):Sp:=fun vs H Q _=>∃ (a:List Nat) (z g:Int),vs=[.str (T a),.int z,.int g]∧0 < z∧z≤9∧0≤g∧g≤1∧a.length≤400 ∧ ∀ p H',Same H H'→H' p=some (.lst ((pcs a z.toNat g.toNat a.length).map fun l=>V.str (T l)))→Q (.ref p) H'
theorem zOa {K:W.Frag} {a:List Nat} {z g:Int} {H:Hp} {Q:VK} {E:XK} (h1:0 < z) (h2:z≤9) (h3:0≤g) (h4:g≤1) (h5:a.length≤400) (q : ∀ p H',Same H H'→H' p=some (.lst ((pcs a z.toNat g.toNat a.length).map fun l=>V.str (T l)))→Q (.ref p) H'):zEg K ([.str (T a),.int z,.int g]++[]) H Q E:=⟨a,z,g,rfl,h1,h2,h3,h4,h5,q⟩
local macro_rules | `(tactic| walk_at "rdc")=>`(tactic| ((with_reducible refine' zOa ?h1 ?h2 ?h3 ?h4 ?h5 ?_);(case h1=>omega);(case h2=>omega);(case h3=>omega);(case h4=>omega);(case h5=>omega);intro p' H' g' e'))
def zFd (K:W.Frag):Sp:=fun vs H Q _=>∃ (a:List Nat) (z:Int) (m:Nat),vs=[.str (T a),.int z,.str (T [m])]∧0≤z∧z≤9∧a.length≤400 ∧ ∀ H',Same H H'→Q (.str (T (gr z.toNat m a))) H'
theorem zQj {K:W.Frag} {a:List Nat} {z:Int} {m:Nat} {H:Hp} {Q:VK} {E:XK} (h1:0≤z) (h2:z≤9) (h5:a.length≤400) (q : ∀ H',Same H H'→Q (.str (T (gr z.toNat m a))) H'):zFd K ([.str (T a),.int z,.str (T [m])]++[]) H Q E:=⟨a,z,m,rfl,h1,h2,h5,q⟩
local macro_rules | `(tactic| walk_at "rdc")=>`(tactic| ((with_reducible refine' zQj ?h1 ?h2 ?h5 ?_);(case h1=>omega);(case h2=>omega);(case h5=>omega);intro H' g'))
def NumB (n b p:Int):Prop:=0≤n∧2≤b∧b≤16∧0≤p∧p≤6∧n.toNat < b.toNat ^ (40+p.toNat)
def bdI (n b p:Int) (pt:Nat) (z:Int) (m:Nat):List Nat:=bdy b.toNat p.toNat pt z.toNat m n.toNat
theorem NumB.big {n b p:Int} (h:NumB n b p):n < 1766847064778384329583297500742918515827483896875618958121606201292619776:=by
 obtain ⟨h1,h2,h3,h4,h5,h6⟩:=h
 have e1:b.toNat ^ (40+p.toNat)≤16 ^ (40+p.toNat):=Nat.pow_le_pow_left (by omega) _
 have e2:(16:Nat) ^ (40+p.toNat)≤16 ^ 46:=Nat.pow_le_pow_right (by decide) (by omega)
 have e3:(16:Nat) ^ 46 < 1766847064778384329583297500742918515827483896875618958121606201292619776:=by decide +kernel
 omega
def zHB (K:W.Frag):Sp:=fun vs H Q _=>∃ (n b p z:Int) (pt m:Nat),vs=[.int n,.int b,.int p,.str (T [pt]),.int z,.str (T [m])]∧NumB n b p∧0≤z∧z≤9 ∧ ∀ H',Same H H'→Q (.str (T (bdI n b p pt z m))) H'
theorem zLj {K:W.Frag} {n b p z:Int} {pt m:Nat} {H:Hp} {Q:VK} {E:XK} (h1:NumB n b p) (h2:0≤z) (h3:z≤9) (q : ∀ H',Same H H'→Q (.str (T (bdI n b p pt z m))) H'):zHB K ([.int n,.int b,.int p,.str (T [pt]),.int z,.str (T [m])]++[]) H Q E:=⟨n,b,p,z,pt,m,rfl,h1,h2,h3,q⟩
local macro_rules | `(tactic| walk_at "rdc")=>`(tactic| ((with_reducible refine' zLj ?h1 ?h2 ?h3 ?_);(case h1=>assumption);(case h2=>omega);(case h3=>omega);intro H' g'))
def zDm (K:W.Frag):Sp:=fun vs H Q _=>∃ (x:Str) (b:Bool),vs=[.str x,.bl b]∧zFN x ∧ ∀ p,SqT K H p [.str (T (stL x b)),.str (T (stT x b))]→Q (.ref p) H
theorem zQL {K:W.Frag} {x:Str} {b:Bool} {H:Hp} {Q:VK} {E:XK} (h:zFN x) (q : ∀ p,SqT K H p [.str (T (stL x b)),.str (T (stT x b))]→Q (.ref p) H):zDm K ([.str x,.bl b]++[]) H Q E:=⟨x,b,rfl,h,q⟩
local macro_rules | `(tactic| walk_at "rdc")=>`(tactic| ((with_reducible refine' zQL ?h ?_);(case h=>assumption);intro p' e'))
def sg (x:Str) (b:Bool) (l:List Nat):List Nat:=stL x b++l++stT x b
theorem zSQ {x:Str} (h:zFN x) (b:Bool) (l:List Nat):l.length≤(sg x b l).length∧(sg x b l).length≤l.length+2:=by
 have:=zJq h b
 unfold sg;simp only [List.length_append];omega
def zGw (K:W.Frag):Sp:=fun vs H Q _=>∃ (l:List Nat) (x:Str) (b:Bool),vs=[.str (T l),.str x,.bl b]∧zFN x∧l.length≤1000∧Q (.str (T (sg x b l))) H
theorem zRh {K:W.Frag} {l:List Nat} {x:Str} {b:Bool} {H:Hp} {Q:VK} {E:XK} (h:zFN x) (h2:l.length≤1000) (q:Q (.str (T (sg x b l))) H):zGw K ([.str (T l),.str x,.bl b]++[]) H Q E:=⟨l,x,b,rfl,h,h2,q⟩
local macro_rules | `(tactic| walk_at "rdc")=>`(tactic| ((with_reducible refine' zRh ?h ?h2 ?_);(case h=>assumption);(case h2=>omega)))
def zBb (K:W.Frag):Sp:=fun vs H Q _=>∃ l:List Nat,vs=[.str (T l)]∧Asc l∧l.length≤1000∧(Fg l→Q (.bl true) H)∧(¬ Fg l→Q (.bl false) H)
theorem zRA {K:W.Frag} {l:List Nat} {H:Hp} {Q:VK} {E:XK} (h1:Asc l) (h2:l.length≤1000) (q1:Fg l→Q (.bl true) H) (q2 : ¬ Fg l→Q (.bl false) H):zBb K ([.str (T l)]++[]) H Q E:=⟨l,rfl,h1,h2,q1,q2⟩
local macro_rules | `(tactic| walk_at "rdc")=>`(tactic| ((with_reducible refine' zRA ?h1 ?h2 (fun fg'=>?_) (fun fg'=>?_));(case h1=>assumption);(case h2=>omega)))
def zDa (K:W.Frag):Sp:=fun vs H Q E=>∃ (t:List Nat) (x:Str),vs=[.str (T t),.str x]∧zFN x∧Asc t∧t.length≤1000∧(∀ b,Sgd x b t → ∀ p H',Same H H'→H' p=some (.tup [.bl b,.str (T (bod x b t))])→Q (.ref p) H')∧((¬ Sgd x false t)→(¬ Sgd x true t) → ∀ C H',Nm K "NoCore" C→Same H H'→E (.ref C) none H')
theorem zOS {K:W.Frag} {t:List Nat} {x:Str} {b:Bool} {H:Hp} {Q:VK} {E:XK} (h1:zFN x) (h2:Asc t) (h3:t.length≤1000) (g:Sgd x b t) (q : ∀ p H',Same H H'→H' p=some (.tup [.bl b,.str (T (bod x b t))])→Q (.ref p) H'):spc (zDa K) ([.str (T t),.str x]++[]) H Q E:=by
 refine ⟨t,x,rfl,h1,h2,h3,fun b' g' p H' gg e=>?_,fun n0 n1=>?_⟩
 ·have e2:b'=b:=by
   cases b' <;> cases b
   ·rfl
   ·exact (zHl h1 g' g).elim
   ·exact (zHl h1 g g').elim
   ·rfl
  subst e2
  exact q p H' gg e
 ·cases b
  ·exact absurd g n0
  ·exact absurd g n1
def zEt (K:W.Frag):Sp:=fun vs H Q E=>∃ (t:List Nat) (z:Int) (m:Nat),vs=[.str (T t),.int z,.str (T [m])]∧0≤z∧z≤9∧t.length≤400∧(GG z.toNat m t → ∀ H',Same H H'→Q (.str (T (ug z.toNat t))) H')∧(¬ GG z.toNat m t → ∀ C H',Nm K "NoGroups" C→Same H H'→E (.ref C) none H')
def zEz (K:W.Frag):Sp:=fun vs H Q E=>∃ (l:List Nat) (b:Int),vs=[.str (T l),.int b]∧Asc l∧1≤l.length∧l.length≤240∧2≤b∧b≤16∧(FigB b l→Q (.int (val b l)) H)∧(¬ FigB b l → ∀ C,Nm K "NoFigures" C→E (.ref C) none H)
def zFA (K:W.Frag):Sp:=fun vs H Q E=>∃ (t:List Nat) (p:Int) (pt:Nat),vs=[.str (T t),.int p,.str (T [pt])]∧0≤p∧p≤6∧t.length≤400∧(WE p.toNat pt t→Q (.int (zD3 p.toNat t).length) H)∧(¬ WE p.toNat pt t → ∀ C,Nm K "NoBody" C→E (.ref C) none H)
def zE1 (K:W.Frag):Sp:=fun vs H Q E=>∃ (t:List Nat) (b p z:Int) (pt m:Nat),vs=[.str (T t),.int b,.int p,.str (T [pt]),.int z,.str (T [m])]∧2≤b∧b≤16∧0≤p∧p≤6∧0≤z∧z≤9∧t.length≤400∧Asc t∧(IsB b p.toNat pt z.toNat m t → ∀ H',Same H H'→Q (.int (bval b p.toNat z.toNat t)) H')∧(¬ IsB b p.toNat pt z.toNat m t → ∀ C H',Nm K "NoBody" C→Same H H'→E (.ref C) none H')
def zEe (K:W.Frag):Sp:=fun vs H Q _=>∃ i:Int,vs=[.int i]∧Q (.bl true) H
theorem zOK {K:W.Frag} {i:Int} {H:Hp} {Q:VK} {E:XK} (q:Q (.bl true) H):zEe K ([.int i]++[]) H Q E:=⟨i,rfl,q⟩
def zCJ (K:W.Frag):Sp:=fun vs H Q _=>∃ a b:Int,vs=[.int a,.int b]∧Q (.int (Int.gcd a b)) H
theorem zJC {K:W.Frag} {a b:Int} {H:Hp} {Q:VK} {E:XK} (q:Q (.int (Int.gcd a b)) H):zCJ K ([.int a,.int b]++[]) H Q E:=⟨a,b,rfl,q⟩
local macro_rules | `(tactic| walk_at "rdc")=>`(tactic| (with_reducible refine zOK ?_))
local macro_rules | `(tactic| walk_at "rdc")=>`(tactic| (with_reducible refine zJC ?_))
def zDw (K:W.Frag):Sp:=fun vs H Q _=>∃ (p:Addr) (a b:Int),vs=[.ref p]∧H p=some (.tup [.int a,.int b])∧1≤b∧Int.gcd a b=1∧Q (.bl true) H
theorem zK4 {K:W.Frag} {p:Addr} {a b:Int} {H:Hp} {Q:VK} {E:XK} (h1:H p=some (.tup [.int a,.int b])) (h2:1≤b) (h3:Int.gcd a b=1) (q:Q (.bl true) H):zDw K ([.ref p]++[]) H Q E:=⟨p,a,b,rfl,h1,h2,h3,q⟩
local macro_rules | `(tactic| walk_at "rdc")=>`(tactic| ((with_reducible refine' zK4 ?h1 ?h2 ?h3 ?_);(case h1=>walk_at "hp");(case h2=>omega);(case h3=>assumption)))
def zK5 (x:Str):Prop:=Side x∨x = "inside"
structure NumS (fg pl b:Int) (sn:Str) (z:Int) (m pt:Nat) (wy:Str) (wd:Int) (f:Nat) (x:Str):Prop where
 fg1:1≤fg
 fg2:fg≤12
 pl1:0≤pl
 pl2:pl≤6
 b1:2≤b
 b2:b≤16
 sn:zFN sn
 z1:0≤z
 z2:z≤9
 m:m < 127
 pt:pt < 127
 wy:Way wy
 wd1:0≤wd
 wd2:wd≤40
 f:f < 127
 x:zK5 x
def zB0 (fg pl b:Int) (sn:Str) (z:Int) (m pt:Nat) (wy:Str):List (Str × V):=[("figures", .int fg),("places", .int pl),("base", .int b),("sign", .str sn),("size", .int z),("mark", .str (T [m])),("point", .str (T [pt])),("way", .str wy)]
def nns:List Str:=["figures", "places", "base", "sign", "size", "mark", "point", "way"]
section
variable {H : Hp} {a C : Addr} {wd : Int} {f : Nat} {x : Str} {st : Bool} {fg pl b : Int} {sn : Str} {z : Int} {m pt : Nat} {wy : Str}
theorem zTI {g:Str} (h:g ∉ nns):(zB0 fg pl b sn z m pt wy).lookup g=none:=by
 simp only [nns,List.mem_cons,List.not_mem_nil,or_false,not_or] at h
 obtain ⟨h1,h2,h3,h4,h5,h6,h7,h8⟩:=h
 exact (zBd h1).trans ((zBd h2).trans ((zBd h3).trans ((zBd h4).trans ((zBd h5).trans ((zBd h6).trans ((zBd h7).trans ((zBd h8).trans rfl)))))))
theorem zIy {g:Str} {v:V} (F:zAZ K H a C wd f x st (zB0 fg pl b sn z m pt wy)) (h:g ∉ bns) (l:(zB0 fg pl b sn z m pt wy).lookup g=some v) (n:g ∈ nns):zEn K H a g v:=F.own h l n
theorem zOX (F:zAZ K H a C wd f x st (zB0 fg pl b sn z m pt wy)):zEn K H a "figures" (.int fg):=zIy F (by decide +kernel) zHP (by decide +kernel)
theorem zQe (F:zAZ K H a C wd f x st (zB0 fg pl b sn z m pt wy)):zEn K H a "places" (.int pl):=zIy F (by decide +kernel) ((zBd (by decide +kernel)).trans zHP) (by decide +kernel)
theorem zUA (F:zAZ K H a C wd f x st (zB0 fg pl b sn z m pt wy)):zEn K H a "base" (.int b):=zIy F (by decide +kernel) ((zBd (by decide +kernel)).trans ((zBd (by decide +kernel)).trans zHP)) (by decide +kernel)
theorem zTL (F:zAZ K H a C wd f x st (zB0 fg pl b sn z m pt wy)):zEn K H a "sign" (.str sn):=zIy F (by decide +kernel) ((zBd (by decide +kernel)).trans ((zBd (by decide +kernel)).trans ((zBd (by decide +kernel)).trans zHP))) (by decide +kernel)
theorem zTQ (F:zAZ K H a C wd f x st (zB0 fg pl b sn z m pt wy)):zEn K H a "size" (.int z):=zIy F (by decide +kernel) ((zBd (by decide +kernel)).trans ((zBd (by decide +kernel)).trans ((zBd (by decide +kernel)).trans ((zBd (by decide +kernel)).trans zHP)))) (by decide +kernel)
theorem zTz (F:zAZ K H a C wd f x st (zB0 fg pl b sn z m pt wy)):zEn K H a "mark" (.str (T [m])):=zIy F (by decide +kernel) ((zBd (by decide +kernel)).trans ((zBd (by decide +kernel)).trans ((zBd (by decide +kernel)).trans ((zBd (by decide +kernel)).trans ((zBd (by decide +kernel)).trans zHP))))) (by decide +kernel)
theorem zRo (F:zAZ K H a C wd f x st (zB0 fg pl b sn z m pt wy)):zEn K H a "point" (.str (T [pt])):=zIy F (by decide +kernel) ((zBd (by decide +kernel)).trans ((zBd (by decide +kernel)).trans ((zBd (by decide +kernel)).trans ((zBd (by decide +kernel)).trans ((zBd (by decide +kernel)).trans ((zBd (by decide +kernel)).trans zHP)))))) (by decide +kernel)
theorem zVj (F:zAZ K H a C wd f x st (zB0 fg pl b sn z m pt wy)):zEn K H a "way" (.str wy):=zIy F (by decide +kernel) ((zBd (by decide +kernel)).trans ((zBd (by decide +kernel)).trans ((zBd (by decide +kernel)).trans ((zBd (by decide +kernel)).trans ((zBd (by decide +kernel)).trans ((zBd (by decide +kernel)).trans ((zBd (by decide +kernel)).trans zHP))))))) (by decide +kernel)
theorem zND {g:Str} (F:zAZ K H a C wd f x st (zB0 fg pl b sn z m pt wy)) (h0:g ∉ bns) (h1:g ∉ nns):InsM H a C g:=F.meth h0 (zTI h1)
end
local macro_rules | `(tactic| walk_at "fld2")=>`(tactic| first | (exact zOX (by walk_at "fm")) | (exact zQe (by walk_at "fm")) | (exact zUA (by walk_at "fm")) | (exact zTL (by walk_at "fm")) | (exact zTQ (by walk_at "fm")) | (exact zTz (by walk_at "fm")) | (exact zRo (by walk_at "fm")) | (exact zVj (by walk_at "fm")))
local macro_rules | `(tactic| walk_at "ins")=>`(tactic| exact zND (by walk_at "fm") (by decide +kernel) (by decide +kernel))
def zBY (K:W.Frag) (C:Addr):Sp:=fun vs H Q _=>∃ (a:Addr) (fg pl b:Int) (sn:Str) (z:Int) (m pt:Nat) (wy:Str) (wd:Int) (f:Nat) (x:Str) (st:Bool) (n:Int),vs=[.ref a,.int n]∧zAZ K H a C wd f x st (zB0 fg pl b sn z m pt wy)∧NumS fg pl b sn z m pt wy wd f x∧Q (.bl (decide (b ^ (fg+pl).toNat≤n))) H
theorem zMq {K:W.Frag} {C a:Addr} {fg pl b:Int} {sn:Str} {z:Int} {m pt:Nat} {wy:Str} {wd:Int} {f:Nat} {x:Str} {st:Bool} {n:Int} {H:Hp} {Q:VK} {E:XK} (h1:zAZ K H a C wd f x st (zB0 fg pl b sn z m pt wy)) (h2:NumS fg pl b sn z m pt wy wd f x) (q:Q (.bl (decide (b ^ (fg+pl).toNat≤n))) H):zBY K C (.ref a::([.int n]++[])) H Q E:=⟨a,fg,pl,b,sn,z,m,pt,wy,wd,f,x,st,n,rfl,h1,h2,q⟩
local macro_rules | `(tactic| walk_at "rdc")=>`(tactic| ((with_reducible refine' zMq ?h1 ?h2 ?_);(case h1=>walk_at "fm");(case h2=>assumption)))
def zHg (pl b:Int) (sn:Str) (z:Int) (m pt:Nat) (k:Int):List Nat:=sg sn (decide (k < 0)) (bdI k.natAbs b pl pt z m)
def LimN (fg pl b:Int) (k:Int):Prop:=k.natAbs < b.toNat ^ (fg+pl).toNat
def zDM (K:W.Frag) (C:Addr):Sp:=fun vs H Q _=>∃ (o p:Addr) (fg pl b:Int) (sn:Str) (z:Int) (m pt:Nat) (wy:Str) (wd:Int) (f:Nat) (x:Str) (st:Bool) (u v k:Int),vs=[.ref o,.ref p]∧zAZ K H o C wd f x st (zB0 fg pl b sn z m pt wy)∧NumS fg pl b sn z m pt wy wd f x∧H p=some (.tup [.int u,.int v])∧GrB u v∧Int.gcd u v=1∧grid wy u v (b ^ pl.toNat)=k∧LimN fg pl b k ∧ ∀ H',Same H H'→Q (.str (T (zHg pl b sn z m pt k))) H'
theorem zVs {K:W.Frag} {C o p:Addr} {fg pl b:Int} {sn:Str} {z:Int} {m pt:Nat} {wy:Str} {wd:Int} {f:Nat} {x:Str} {st:Bool} {u v k:Int} {H:Hp} {Q:VK} {E:XK} (h1:zAZ K H o C wd f x st (zB0 fg pl b sn z m pt wy)) (h2:NumS fg pl b sn z m pt wy wd f x) (h3:H p=some (.tup [.int u,.int v])) (h4:GrB u v) (h5:Int.gcd u v=1) (h6:grid wy u v (b ^ pl.toNat)=k) (h7:LimN fg pl b k) (q : ∀ H',Same H H'→Q (.str (T (zHg pl b sn z m pt k))) H'):zDM K C (.ref o::([.ref p]++[])) H Q E:=⟨o,p,fg,pl,b,sn,z,m,pt,wy,wd,f,x,st,u,v,k,rfl,h1,h2,h3,h4,h5,h6,h7,q⟩
def zA3 (K:W.Frag):Sp:=fun vs H Q _=>∃ (a C:Addr) (wd:Int) (f:Nat) (x:Str) (st:Bool) (more:List (Str × V)) (t:List Nat),vs=[.ref a,.str (T t)]∧zAZ K H a C wd f x st more∧t.length≤400∧Q (.bl (st && decide (wd < t.length))) H
theorem zO5 {K:W.Frag} {C a:Addr} {wd:Int} {f:Nat} {x:Str} {st:Bool} {more:List (Str × V)} {t:List Nat} {H:Hp} {Q:VK} {E:XK} (h1:zAZ K H a C wd f x st more) (h2:t.length≤400) (q:Q (.bl (st && decide (wd < t.length))) H):zA3 K (.ref a::([.str (T t)]++[])) H Q E:=⟨a,C,wd,f,x,st,more,t,rfl,h1,h2,q⟩
local macro_rules | `(tactic| walk_at "rdc")=>`(tactic| ((with_reducible refine' zO5 ?h1 ?h2 ?_);(case h1=>walk_at "fm");(case h2=>omega)))
def Isw (sg:List Nat) (lo hi:Int) (t:List Nat):Prop:=(lo≤t.length∧(t.length:Int)≤hi) ∧ ∀ c ∈ t,c ∈ sg
instance (sg:List Nat) (lo hi:Int) (t:List Nat):Decidable (Isw sg lo hi t):=by unfold Isw;infer_instance
def zDj (sg:List Nat) (lo hi:Int):List (Str × V):=[("signs", .str (T sg)),("least", .int lo),("most", .int hi)]
theorem zS7 {sg:List Nat} {lo hi:Int} {m:Str} (h1:m ≠ "signs") (h2:m ≠ "least") (h3:m ≠ "most"):(zDj sg lo hi).lookup m=none:=(zBd h1).trans ((zBd h2).trans ((zBd h3).trans rfl))
section
variable {H : Hp} {a C : Addr} {wd : Int} {f : Nat} {x : Str} {st : Bool} {sg : List Nat} {lo hi : Int}
theorem zRu (F:zAZ K H a C wd f x st (zDj sg lo hi)):zEn K H a "signs" (.str (T sg)):=F.own (by decide +kernel) zHP (List.mem_cons_self ..)
theorem zSI (F:zAZ K H a C wd f x st (zDj sg lo hi)):zEn K H a "least" (.int lo):=F.own (by decide +kernel) ((zBd (by decide +kernel)).trans zHP) (List.mem_cons_of_mem _ (List.mem_cons_self ..))
theorem zUM (F:zAZ K H a C wd f x st (zDj sg lo hi)):zEn K H a "most" (.int hi):=F.own (by decide +kernel) ((zBd (by decide +kernel)).trans ((zBd (by decide +kernel)).trans zHP)) (List.mem_cons_of_mem _ (List.mem_cons_of_mem _ (List.mem_cons_self ..)))
theorem zM0 {m:Str} (F:zAZ K H a C wd f x st (zDj sg lo hi)) (h0:m ∉ bns) (h1:m ≠ "signs") (h2:m ≠ "least") (h3:m ≠ "most"):InsM H a C m:=F.meth h0 (zS7 h1 h2 h3)
end
local macro_rules | `(tactic| walk_at "fld2")=>`(tactic| first | (exact zRu (by walk_at "fm")) | (exact zSI (by walk_at "fm")) | (exact zUM (by walk_at "fm")))
local macro_rules | `(tactic| walk_at "ins")=>`(tactic| exact zM0 (by walk_at "fm") (by decide +kernel) (by decide +kernel) (by decide +kernel) (by decide +kernel))
theorem zKO {f:Addr} {fd:FuncData} (F:Fun K "_law_cell_at" "_law_cell_at" zCk f fd) (B:Blt mg):FnOk P w K mg base CX0 1 f fd ["_law_script", "_law_k"] (zCv K):=by
 refine F.ok zKP (fun vs H Q E h=>?_) (fun cdv A outer s H vs Q E hr h=>?_)
 ·obtain ⟨a,ns,k,rfl,hS,hk,q⟩:=h
  rfl
 obtain ⟨a,ns,k,rfl,hS,hk,q⟩:=h
 refine ⟨_,zAE (zBC (zAT zKR (pv 1) (zAO zH3 B.z_len rfl zBl (zAA (pv 0) (zAH))) (zAV _)) (zAI (zAQ (zAX zBF (pv 0) (pv 1) (fun _ _=>rfl)))) (zAW))
  (zAI (zAQ (zAG))),?_⟩
 walk_at "st"
 walk_at "rd"
 ·rename_i hc
  rw [List.length_map] at hc
  exact zLK hS hk (by rw [List.length_map];omega) fun x hx=>by
   obtain ⟨v,_,rfl⟩:=List.mem_map.mp (List.mem_of_getElem? hx)
   exact q v
 ·exact q 0
theorem zNf {f:Addr} {fd:FuncData} (F:Fun K "_law_pick" "_law_pick" zEN f fd) (B:Blt mg):FnOk P w K mg base CX0 1 f fd ["_law_cell", "_law_salt", "_law_many"] (zBa K):=by
 refine F.ok zF9 (fun vs H Q E h=>?_) (fun cdv A outer s H vs Q E hr h=>?_)
 ·obtain ⟨c,t,m,rfl,ht,hm,q⟩:=h
  rfl
 obtain ⟨c,t,m,rfl,ht,hm,q⟩:=h
 refine ⟨_,zAE (zBC (PW.pt (zGR (zAT zHk (pv 0) (zNT (k:=1000000000000000000) (by unfold CPow;decide) (by decide +kernel)) (zAV _)) (zD4 (zAT zHk (zAS zK2 (pv 0) (zAS zCO (zAG) (pv 1))) (zAG) (zAV _))))) (zAI (zAQ (zAS zBj (zAS zBj (zAS zK2 (pv 0) (zAS zCO (zAG) (pv 1))) (zAG)) (pv 2)))) (zAW))
  (zAE (zAP (i:=3) zF9.nd rfl (Or.inl rfl) (zAS zBj (zAS zBO (zAS zBO (zAS zBj (pv 0) (zAG)) (zAG)) (zAS zCO (zAG) (pv 1))) (zAG)))
  (zAE (zAP (i:=3) zF9.nd rfl (Or.inl rfl) (zAS zBj (zAS zCO (pv 3) (pv 3)) (zAG)))
  (zAE (zAP (i:=4) zF9.nd rfl (Or.inl rfl) (zAS zBj (zAS zCO (zAS zBO (pv 3) (zAG)) (zAS zBO (zAS zBO (zAS zCA (pv 3) (zAG)) (zAG)) (pv 1))) (zAG)))
  (zAI (zAQ (zAS zBj (zAS zCA (pv 4) (zAG)) (pv 2))))))),?_⟩
 walk_at "st"
 walk_at "rd"
 all_goals exact q _ (Int.emod_nonneg _ (by omega)) (Int.emod_lt_of_pos _ hm)
theorem zO2 {f:Addr} {fd:FuncData} (F:Fun K "pads_of" "pads_of" zFc f fd) (B:Blt mg):FnOk P w K mg base CX0 1 f fd ["length", "width", "side"] (zFm K):=by
 refine F.ok zKe (fun vs H Q E h=>?_) (fun cdv A outer s H vs Q E hr h=>?_)
 ·obtain ⟨n,w,x,rfl,hs,h0,hw,q⟩:=h
  rfl
 obtain ⟨n,w,x,rfl,hs,h0,hw,q⟩:=h
 refine ⟨_,zAE (zAP (i:=3) zKe.nd rfl (Or.inl rfl) (zAO (zHD rfl) B.z_max rfl zNx (zAA (zAG) (zAA (zAS zCr (pv 1) (pv 0)) (zAH)))))
  (zAE (zBC (zAT zCB (pv 2) (zAe) (zAV _)) (zAI (zAQ (zDI (zAA (zAG) (zAA (pv 3) (zAH)))))) (zAW))
  (zAE (zBC (zAT zCB (pv 2) (zAe) (zAV _)) (zAI (zAQ (zDI (zAA (pv 3) (zAA (zAG) (zAH)))))) (zAW))
  (zAI (zAQ (zDI (zAA (zAS zCA (pv 3) (zAG)) (zAA (zAS zCr (pv 3) (zAS zCA (pv 3) (zAG))) (zAH)))))))),?_⟩
 walk_at "st"
 have b:=zIM n w h0 hw
 have e:pB x n w=lk n w - pA x n w:=rfl
 rcases hs with rfl | rfl | rfl
 ·rw [pAl] at q e
  walk_at "rd"
  rename_i k hk p' H' g' e'
  exact q _ _ g' (by rw [e',show k=pB "left" n w by omega])
 ·rw [pAr] at q e
  walk_at "rd"
  rename_i k hk p' H' g' e'
  exact q _ _ g' (by rw [e',show k=lk n w by omega,show pB "right" n w=0 by omega])
 ·rw [pAm] at q e
  walk_at "rd"
  rename_i k hk p' H' g' e'
  exact q _ _ g' (by rw [e',e,show k=lk n w by omega])
theorem zPZ {f:Addr} {fd:FuncData} (F:Fun K "padded" "padded" zHA f fd) (B:Blt mg) (zJt:Has P w K mg base "pads_of" 1 ["length", "width", "side"] (zFm K)):FnOk P w K mg base CX0 2 f fd ["text", "width", "fill", "side"] (zFn K):=by
 refine F.ok zLa (fun vs H Q E h=>?_) (fun cdv A outer s H vs Q E hr h=>?_)
 ·obtain ⟨t,w,f,x,rfl,hs,h0,hw,q⟩:=h
  rfl
 obtain ⟨t,w,f,x,rfl,hs,h0,hw,q⟩:=h
 refine ⟨_,zAE (zAP (i:=4) zLa.nd rfl (Or.inl rfl) (zAJ zJt hr rfl (zAA (zAO zAu B.z_len rfl zBl (zAA (pv 0) (zAH))) (zAA (pv 1) (zAA (pv 3) (zAH))))))
  (zAI (zAQ (zAS zBe (zAS zBe (zAS zIK (pv 2) (zAX zAa (pv 4) (zAG) (fun _ _=>rfl))) (pv 0)) (zAS zIK (pv 2) (zAX zAa (pv 4) (zAG) (fun _ _=>rfl)))))),?_⟩
 walk_at "st"
 have b:=zFJ (n:=t.length) hs (by omega) hw
 have b':=b
 obtain ⟨b1,b2,b3,_⟩:=b'
 have bl:=zIM t.length w (by omega) hw
 walk_at "rd"
 exact q _ (by assumption)
local macro_rules | `(tactic| walk_at "rdc")=>`(tactic| ((with_reducible refine' zPC ?h1 ?h2 ?h3 ?h4 ?_);(case h1=>omega);(case h2=>omega);(case h3=>omega);(case h4=>omega)))
local macro_rules | `(tactic| walk_at "rdc")=>`(tactic| ((with_reducible refine' zQr ?h1 ?h2 ?h3 ?_);(case h1=>assumption);(case h2=>omega);(case h3=>omega)))
local macro_rules | `(tactic| walk_at "rdc")=>`(tactic| ((with_reducible refine' zQh ?h1 ?h2 ?h3 ?h4 ?h5 ?h6 ?h7 ?_);(case h1=>walk_at "hp");(case h2=>assumption);(case h3=>omega);(case h4=>omega);(case h5=>omega);(case h6=>omega);(case h7=>first | assumption | exact .inl rfl | exact .inr (.inl rfl) | exact .inr (.inr (.inl rfl)) | exact .inr (.inr (.inr (.inl rfl))) | exact .inr (.inr (.inr (.inr rfl))))))
theorem zNh {f:Addr} {fd:FuncData} (F:Fun K "power_of" "power_of" zEU f fd) (B:Blt mg):FnOk P w K mg base CX0 1 f fd ["base", "times"] (zDX K):=by
 refine F.ok zGA (fun vs H Q E h=>?_) (fun cdv A outer s H vs Q E hr h=>?_)
 ·obtain ⟨b,t,rfl,h1,h2,h3,h4,q⟩:=h
  rfl
 obtain ⟨b,t,rfl,h1,h2,h3,h4,q⟩:=h
 refine ⟨_,zAE (zAP (i:=2) zGA.nd rfl (Or.inl rfl) (zAG))
  (zAE (zI4 PassesOwn.never rfl (zFP rfl B.z_range (zAA (pv 1) (zAH))) (zBX (i:=3) zGA.nd rfl (Or.inl rfl)) (zAI (zAP (i:=2) zGA.nd rfl (Or.inl rfl) (zAS zCO (pv 2) (pv 0)))))
  (zAI (zAQ (pv 2)))),?_⟩
 walk_at "st"
 walk_at "rd"
 refine zKr (by omega) (by omega) (fun i σ H'=>H'=H ∧ ∃ r,σ=[some (.int b),some (.int t),some (.int (b ^ i)),r]) ⟨rfl,none,by rw [Int.pow_zero];rfl⟩ ?_ ?_
 ·rintro i σ H' hi ⟨rfl,r,rfl⟩
  have z:=pw60 (n:=i) h1 h2 (by omega)
  walk_at "rd"
  exact ⟨rfl,some (.int (0+i)),by rw [Int.pow_succ];rfl⟩
 ·rintro σ H' ⟨rfl,r,rfl⟩
  walk_at "rd"
  exact q
theorem zOb {f:Addr} {fd:FuncData} (F:Fun K "goes_up" "goes_up" zFh f fd) (B:Blt mg):FnOk P w K mg base CX0 1 f fd ["below", "rest", "bottom", "way"] (zHC K):=by
 refine F.ok zPI (fun vs H Q E h=>?_) (fun cdv A outer s H vs Q E hr h=>?_)
 ·obtain ⟨be,re,bo,w,rfl,h1,h2,h3,q⟩:=h
  rfl
 obtain ⟨be,re,bo,w,rfl,h1,h2,h3,q⟩:=h
 refine ⟨_,zAE (zBC (zAT zCB (pv 3) (zAe) (zAV _)) (zAI (zAQ (zHt))) (zAW))
  (zAE (zBC (zAT zCB (pv 3) (zAe) (zAV _)) (zAI (zAQ (zHt))) (zAW))
  (zAE (zBC (zAT zCB (pv 3) (zAe) (zAV _)) (zAI (zAQ (zCG zKR (pv 0) (zAG) (zAV _)))) (zAW))
  (zAE (zBC (zAT zJZ (zAS zCO (zAG) (pv 1)) (pv 2) (zAV _)) (zAI (zAQ (zCG zHk (zAS zCO (zAG) (pv 1)) (pv 2) (zAV _)))) (zAW))
  (zAI (zAQ (zXF (zCG zCB (pv 3) (zAe) (zAV _)) (zJ2 (zCG zCB (zAS zBj (pv 0) (zAG)) (zAG) (zAV _))))))))),?_⟩
 walk_at "st"
 rcases h1 with rfl | rfl | rfl | rfl | rfl
 all_goals walk_at "rd"
 ·rw [zTa] at q;exact q
 ·rw [zXS] at q;exact q
 ·rw [zVN] at q;exact q
 ·rw [zT7 (by assumption)] at q;exact q
 ·rw [zQ7 (by assumption)] at q;exact q
 ·rw [zT9 (by assumption)] at q;exact q
 ·rw [zSC (by assumption)] at q;exact q
theorem zOQ {f:Addr} {fd:FuncData} (F:Fun K "gridded" "gridded" zFg f fd) (B:Blt mg) (zFj:Has P w K mg base "power_of" 1 ["base", "times"] (zDX K)) (zP1:Has P w K mg base "goes_up" 1 ["below", "rest", "bottom", "way"] (zHC K)):FnOk P w K mg base CX0 2 f fd ["value", "base", "places", "way"] (zG1 K):=by
 refine F.ok zFO (fun vs H Q E h=>?_) (fun cdv A outer s H vs Q E hr h=>?_)
 ·obtain ⟨p,a,b,c,t,w,rfl,h1,⟨g1,g2,g3,g4⟩,h3,h4,h5,h6,h7,q⟩:=h
  rfl
 obtain ⟨p,a,b,c,t,w,rfl,h1,⟨g1,g2,g3,g4⟩,h3,h4,h5,h6,h7,q⟩:=h
 refine ⟨_,zAE (zAP (i:=4) zFO.nd rfl (Or.inl rfl) (zAS zCO (zAX zAa (pv 0) (zAG) (fun _ _=>rfl)) (zAJ zFj hr rfl (zAA (pv 1) (zAA (pv 2) (zAH))))))
  (zAE (zAP (i:=5) zFO.nd rfl (Or.inl rfl) (zAX zAa (pv 0) (zAG) (fun _ _=>rfl)))
  (zAE (zAP (i:=6) zFO.nd rfl (Or.inl rfl) (zAS zCA (pv 4) (pv 5)))
  (zAE (zAP (i:=7) zFO.nd rfl (Or.inl rfl) (zAS zBj (pv 4) (pv 5)))
  (zAE (zBC (PW.pt (zGR (zAT zHk (pv 7) (zAG) (zAV _)) (zD4 (zB2 (zAJ zP1 hr rfl (zAA (pv 6) (zAA (pv 7) (zAA (pv 5) (zAA (pv 3) (zAH)))))))))) (zAI (zAQ (zAS zBO (pv 6) (zAG)))) (zAW))
  (zAI (zAQ (pv 6))))))),?_⟩
 walk_at "st"
 have z:=pw6 (t:=t) h3 h4 h6
 have m:=zWL (M:=16777217) g1 g2 (show 0 < c ^ t.toNat by omega) (by omega)
 have n:=zWt (a*c ^ t.toNat) g3
 unfold grid at q
 walk_at "rd"
 ·rw [if_pos ⟨by assumption,by assumption⟩] at q;exact q
 ·rename_i hc1 hc2
  rw [if_neg (fun z=>by rw [hc2] at z;exact Bool.false_ne_true z.2)] at q;exact q
 ·rename_i hc1
  rw [if_neg (fun z=>hc1 z.1)] at q;exact q
theorem zKm {f:Addr} {fd:FuncData} (F:Fun K "figures_of" "figures_of" zDC f fd) (B:Blt mg) {zEf:Tok} (zCc:mg "FIGURES" = some (.str "0123456789abcdef" zEf)):FnOk P w K mg base CX0 1 f fd ["number", "base"] (zEF K):=by
 refine F.ok zDH (fun vs H Q E h=>?_) (fun cdv A outer s H vs Q E hr h=>?_)
 ·obtain ⟨n,b,rfl,h1,h2,h3,h4,q⟩:=h
  rfl
 obtain ⟨n,b,rfl,h1,h2,h3,h4,q⟩:=h
 refine ⟨_,zAE (zAP (i:=2) zDH.nd rfl (Or.inl rfl) (zAX zDS (zDK rfl zCc (v:=.str "0123456789abcdef") ⟨_,rfl⟩) (zAS zBj (pv 0) (pv 1)) (fun _ _=>rfl)))
  (zAE (zAP (i:=3) zDH.nd rfl (Or.inl rfl) (zAS zCA (pv 0) (pv 1)))
  (zAE (zH6 PassesOwn.never (zAT zHk (pv 3) (zAG) (zAV _)) (zAE (zAP (i:=2) zDH.nd rfl (Or.inl rfl) (zAS zBe (zAX zDS (zDK rfl zCc (v:=.str "0123456789abcdef") ⟨_,rfl⟩) (zAS zBj (pv 3) (pv 1)) (fun _ _=>rfl)) (pv 2)))
  (zAI (zAP (i:=3) zDH.nd rfl (Or.inl rfl) (zAS zCA (pv 3) (pv 1))))))
  (zAI (zAQ (pv 2))))),?_⟩
 walk_at "st"
 obtain ⟨N,rfl⟩:=Int.eq_ofNat_of_zero_le h1
 obtain ⟨m,rfl⟩:=Int.eq_ofNat_of_zero_le (show 0≤b by omega)
 have hz:=zJO (b:=m) (n:=N) (by omega) (by omega)
 have em : ∀ k:Nat,(k:Int) % (m:Int)=((k % m:Nat):Int):=fun k=>(Int.natCast_emod k m).symm
 have ed : ∀ k:Nat,(k:Int) / (m:Int)=((k / m:Nat):Int):=fun k=>(Int.natCast_ediv k m).symm
 have lm : ∀ k:Nat,k % m < m:=fun k=>Nat.mod_lt k (by omega)
 have sp:=zMI (b:=m) (by omega) (by omega) N N (Nat.le_refl _)
 replace q:=q _ rfl (by simp only [Int.toNat_natCast];exact sp.1) (by simp only [Int.toNat_natCast];exact sp.2.1) (by simp only [Int.toNat_natCast];exact List.length_pos_iff.mpr sp.2.2.1) (by simp only [Int.toNat_natCast];exact hz) (by
  simp only [Int.toNat_natCast];intro z;rw [sp.2.2.2 z,zDQ (by omega)];decide +kernel)
 simp only [Int.toNat_natCast] at q
 have l0:=lm N
 have e0:=em N
 walk_at "rd"
 rw [ed N,em N,Int.toNat_natCast]
 refine zKB (fun k σ H'=>H'=H ∧ ∃ l:List Nat,σ=[some (.int N),some (.int m),some (.str (T l)),some (.int k)]∧figs m N=if k=0 then l else figs m k++l) ⟨N / m,rfl,[fc (N % m)],rfl,?_⟩ ?_
 ·have t:=zJ4 (b:=m) (m:=N) (by omega) []
  rw [List.append_nil] at t;exact t
 ·rintro k σ H' ⟨rfl,l,rfl,e⟩
  have lk:=lm k
  have ek:=em k
  have ll:l.length≤240:=by
   have z:=congrArg List.length e
   split at z
   ·omega
   ·rw [List.length_append] at z;omega
  walk_at "rd"
  ·rename_i hc
   refine ⟨k / m,Nat.div_lt_self (by omega) (by omega),rfl,fc (k % m)::l,?_,?_⟩
   ·rw [em k,ed k,Int.toNat_natCast];rfl
   ·rw [← zJ4 (by omega) l,e,if_neg (by omega)]
  ·rename_i hc
   rw [if_pos (by omega)] at e
   rw [← e];exact q
theorem zNG {f:Addr} {fd:FuncData} (F:Fun K "parts_of" "parts_of" zEJ f fd) (B:Blt mg):FnOk P w K mg base CX0 1 f fd ["text", "size", "between"] (zEg K):=by
 refine F.ok zFs (fun vs H Q E h=>?_) (fun cdv A outer s H vs Q E hr h=>?_)
 ·obtain ⟨a,z,g,rfl,h1,h2,h3,h4,h5,q⟩:=h
  rfl
 obtain ⟨a,z,g,rfl,h1,h2,h3,h4,h5,q⟩:=h
 refine ⟨_,zAE (zAP (i:=3) zFs.nd rfl (Or.inl rfl) (zBE (zAH)))
  (zAE (zAP (i:=4) zFs.nd rfl (Or.inl rfl) (zAO zAu B.z_len rfl zBl (zAA (pv 0) (zAH))))
  (zAE (zH6 PassesOwn.never (zAT zHk (pv 4) (zAG) (zAV _)) (zAE (zFL (zIJ PySem.F.plainAttrs_list PySem.F.slot_list_append PySem.F.type_list_append zGo (pv 3) (zAA (zBR zEW (pv 0) (zBI (zAO (zHD rfl) B.z_max rfl zNx (zAA (zAG) (zAA (zAS zCr (pv 4) (pv 1)) (zAH))))) (zBI (pv 4))) (zAH))))
  (zAI (zAP (i:=4) zFs.nd rfl (Or.inl rfl) (zAS zCr (zAS zCr (pv 4) (pv 1)) (pv 2))))))
  (zAE (zFL (zS3 PySem.F.plainAttrs_list PySem.F.slot_list_reverse PySem.F.type_list_reverse zOg (pv 3)))
  (zAI (zAQ (pv 3)))))),?_⟩
 walk_at "st"
 refine zVB (zVP (zWj (zWI (zTU (by decide) fun l hl=>?_))))
 walk_at "rd"
 refine zKB (fun k σ H'=>∃ (e:Int) (ps:List (List Nat)),σ=[some (.str (T a)),some (.int z),some (.int g),some (.ref l),some (.int e)]∧H'=upd H l (.lst (ps.map fun l=>V.str (T l)))∧k=e.toNat∧ps.length+e.toNat≤a.length∧e≤a.length∧pcs a z.toNat g.toNat a.length=pcs a z.toNat g.toNat e.toNat++ps.reverse) ⟨_,a.length,[],rfl,rfl,rfl,by simp,Int.le_refl _,by simp⟩ ?_
 rintro k σ H' ⟨e,ps,rfl,rfl,rfl,b1,b2,ep⟩
 walk_at "rd"
 ·rename_i hc k' hk'
  refine zLO zAU (zCF (by rw [List.length_map];omega)) ?_
  rw [zCp]
  walk_at "rd"
  refine ⟨(e - z - g).toNat,by omega,e - z - g,ps++[(a.take e.toNat).drop k'.toNat],rfl,by rw [List.map_append];rfl,rfl,by rw [List.length_append,List.length_singleton];omega,by omega,?_⟩
  rw [ep,zJn (by omega) (by omega),List.reverse_append,show (e - z - g).toNat=e.toNat - z.toNat - g.toNat by omega,show k'.toNat=e.toNat - z.toNat by omega]
  simp
 ·rename_i hc
  refine zPb zAU ?_
  rw [zCp]
  walk_at "rd"
  refine q _ _ (zAq (Same.refl _) hl) ?_
  rw [zAU,ep,show e.toNat=0 by omega,zE5,List.nil_append,List.map_reverse]
theorem zOi {f:Addr} {fd:FuncData} (F:Fun K "grouped" "grouped" zFZ f fd) (B:Blt mg) (zIl:Has P w K mg base "parts_of" 1 ["text", "size", "between"] (zEg K)):FnOk P w K mg base CX0 2 f fd ["text", "size", "mark"] (zFd K):=by
 refine F.ok zO4 (fun vs H Q E h=>?_) (fun cdv A outer s H vs Q E hr h=>?_)
 ·obtain ⟨a,z,m,rfl,h1,h2,h5,q⟩:=h
  rfl
 obtain ⟨a,z,m,rfl,h1,h2,h5,q⟩:=h
 refine ⟨_,zAE (zBC (zAT zCB (pv 1) (zAG) (zAV _)) (zAI (zAQ (pv 0))) (zAW))
  (zAI (zAQ (zIJ PySem.F.plainAttrs_str PySem.F.slot_str_join PySem.F.type_str_join zJM (pv 2) (zAA (zAJ zIl hr rfl (zAA (pv 0) (zAA (pv 1) (zAA (zAG) (zAH))))) (zAH))))),?_⟩
 walk_at "st"
 have bd:=fun hz:0 < z.toNat=>zOB (a:=a) (g:=0) hz a.length a.length (Nat.le_refl _)
 walk_at "rd"
 ·rename_i hc
  subst hc
  have q':=q _ (Same.refl _)
  rw [show Int.toNat 0=0 from rfl,zIe] at q'
  exact q'
 ·rename_i hc p' H' g' e'
  have b:=bd (by omega)
  refine zKu e' (by rw [Lt_T,List.length_singleton,show Int.toNat 0=0 from rfl];omega) ?_
  rw [Lt_T,show Int.toNat 0=0 from rfl,zXD (by omega)]
  exact q _ g'
theorem zOV {f:Addr} {fd:FuncData} (F:Fun K "body_of" "body_of" zFX f fd) (B:Blt mg) (zJr:Has P w K mg base "grouped" 2 ["text", "size", "mark"] (zFd K)) (zL8:Has P w K mg base "figures_of" 1 ["number", "base"] (zEF K)):FnOk P w K mg base CX0 3 f fd ["number", "base", "places", "point", "size", "mark"] (zHB K):=by
 refine F.ok zG4 (fun vs H Q E h=>?_) (fun cdv A outer s H vs Q E hr h=>?_)
 ·obtain ⟨n,b,p,z,pt,m,rfl,hn,h2,h3,q⟩:=h
  rfl
 obtain ⟨n,b,p,z,pt,m,rfl,hn,h2,h3,q⟩:=h
 refine ⟨_,zAE (zAP (i:=6) zG4.nd rfl (Or.inl rfl) (zIJ PySem.F.plainAttrs_str PySem.F.slot_str_rjust PySem.F.type_str_rjust zPd (zAJ zL8 hr rfl (zAA (pv 0) (zAA (pv 1) (zAH)))) (zAA (zAS zBO (pv 2) (zAG)) (zAA (zBt (l:=[48]) (by decide +kernel)) (zAH)))))
  (zAE (zAP (i:=7) zG4.nd rfl (Or.inl rfl) (zAS zCr (zAO zAu B.z_len rfl zBl (zAA (pv 6) (zAH))) (pv 2)))
  (zAE (zAP (i:=8) zG4.nd rfl (Or.inl rfl) (zAJ zJr hr rfl (zAA (zBR zEW (pv 6) (zCa) (zBI (pv 7))) (zAA (pv 4) (zAA (pv 5) (zAH))))))
  (zAE (zBC (zAT zCB (pv 2) (zAG) (zAV _)) (zAI (zAQ (pv 8))) (zAW))
  (zAI (zAQ (zAS zBe (zAS zBe (pv 8) (pv 3)) (zBR zEW (pv 6) (zBI (pv 7)) (zCa)))))))),?_⟩
 walk_at "st"
 have big:=hn.big
 have hn':=hn
 obtain ⟨n1,n2,n3,n4,n5,n6⟩:=hn'
 have ds:=zJN (b:=b.toNat) (p:=p.toNat) (n:=n.toNat) (by omega) (by omega) (by omega) n6
 have ws:=zNo (b:=b.toNat) (p:=p.toNat) (n:=n.toNat) (by omega) (by omega) (by omega) n6
 have gl:=zMd (z:=z.toNat) (m:=m) (a:=whl b.toNat p.toNat n.toNat)
 walk_at "rd"
 rename_i l el f1 f2 f3 f4 f5
 have ed:List.replicate ((p+1).toNat - l.length) 48++l=dgs b.toNat p.toNat n.toNat:=by
  rw [el];unfold dgs;rw [show (p+1).toNat=p.toNat+1 by omega]
 have ew:(dgs b.toNat p.toNat n.toNat).take (((dgs b.toNat p.toNat n.toNat).length:Int) - p).toNat=whl b.toNat p.toNat n.toNat:=by
  unfold whl;rw [show (((dgs b.toNat p.toNat n.toNat).length:Int) - p).toNat=(dgs b.toNat p.toNat n.toNat).length - p.toNat by omega]
 have er:(dgs b.toNat p.toNat n.toNat).drop (((dgs b.toNat p.toNat n.toNat).length:Int) - p).toNat=rst b.toNat p.toNat n.toNat:=by
  unfold rst;rw [show (((dgs b.toNat p.toNat n.toNat).length:Int) - p).toNat=(dgs b.toNat p.toNat n.toNat).length - p.toNat by omega]
 rw [ed]
 walk_at "rd"
 rw [ew]
 walk_at "rd"
 ·rename_i H1 g1 hc
  have e:bdI n b p pt z m=gr z.toNat m (whl b.toNat p.toNat n.toNat):=by unfold bdI bdy;rw [if_pos (by omega)]
  have q':=q _ g1
  rw [e] at q';exact q'
 ·rename_i H1 g1 hc
  have e:bdI n b p pt z m=gr z.toNat m (whl b.toNat p.toNat n.toNat)++[pt]++rst b.toNat p.toNat n.toNat:=by unfold bdI bdy;rw [if_neg (by omega)]
  have q':=q _ g1
  rw [e] at q'
  rw [er];exact q'
theorem zO1 {f : Addr} {fd : FuncData} (F : Fun K "ends_of" "ends_of" zFb f fd) (B : Blt mg) {zF4 : Addr} (zJP : mg "STYLES" = some (.ref zF4))(sty : Sty w K zF4) : FnOk P w K mg base CX0 1 f fd ["style", "below"] (zDm K) := by
  refine F.ok zOx (fun vs H Q E h => ?_) (fun cdv A outer s H vs Q E hr h => ?_)
  · obtain ⟨x, b, rfl, hx, q⟩ := h
    rfl
  obtain ⟨x, b, rfl, hx, q⟩ := h
  refine ⟨_, zAE (zBC (zB2 (pv 1)) (zAI (zAQ (zAX zAa (zAX zV0 (zDK rfl zJP (v := .ref zF4) rfl) (pv 0) (fun _ _ => rfl)) (zAG) (fun _ _ => rfl)))) (zAW))
    (zAI (zAQ (zAX zAa (zAX zV0 (zDK rfl zJP (v := .ref zF4) rfl) (pv 0) (fun _ _ => rfl)) (zAG) (fun _ _ => rfl)))), ?_⟩
  walk_at "st"
  obtain ⟨p, a, c, kd, sq⟩ := sty x hx
  cases b with
  | true =>
    walk_at "rd"
    refine zWg kd ?_
    walk_at "rd"
    exact zTO (sq H).1 rfl (q _ (sq H).2.2)
  | false =>
    walk_at "rd"
    refine zWg kd ?_
    walk_at "rd"
    exact zTO (sq H).1 rfl (q _ (sq H).2.1)
theorem zPp {f:Addr} {fd:FuncData} (F:Fun K "signed" "signed" zG3 f fd) (B:Blt mg) (zEl:Has P w K mg base "ends_of" 1 ["style", "below"] (zDm K)):FnOk P w K mg base CX0 2 f fd ["body", "style", "below"] (zGw K):=by
 refine F.ok zLe (fun vs H Q E h=>?_) (fun cdv A outer s H vs Q E hr h=>?_)
 ·obtain ⟨l,x,b,rfl,hx,hl,q⟩:=h
  rfl
 obtain ⟨l,x,b,rfl,hx,hl,q⟩:=h
 refine ⟨_,zAE (zAP (i:=3) zLe.nd rfl (Or.inl rfl) (zAJ zEl hr rfl (zAA (pv 1) (zAA (pv 2) (zAH)))))
  (zAI (zAQ (zAS zBe (zAS zBe (zAX zAa (pv 3) (zAG) (fun _ _=>rfl)) (pv 0)) (zAX zAa (pv 3) (zAG) (fun _ _=>rfl))))),?_⟩
 walk_at "st"
 have ln:=zJq hx b
 walk_at "rd"
 exact q
theorem zFF {f:Addr} {fd:FuncData} (F:Fun K "stands_between_figures" "stands_between_figures" zA9 f fd) (B:Blt mg) {zEf:Tok} (zCc:mg "FIGURES" = some (.str "0123456789abcdef" zEf)):FnOk P w K mg base CX0 1 f fd ["body"] (zBb K):=by
 refine F.ok zFD (fun vs H Q E h=>?_) (fun cdv A outer s H vs Q E hr h=>?_)
 ·obtain ⟨l,rfl,al,hl,q1,q2⟩:=h
  rfl
 obtain ⟨l,rfl,al,hl,q1,q2⟩:=h
 refine ⟨_,zAI (zAQ (zJk (zCG zJZ (pv 0) (zBt (l:=[]) (by decide +kernel)) (zAV _)) (zJk (zCG zQB (zAX zDS (pv 0) (zAG) (fun _ _=>rfl)) (zDK rfl zCc (v:=.str "0123456789abcdef") ⟨_,rfl⟩) (by with_unfolding_all rfl)) (zJ2 (zCG zQB (zAX zDS (pv 0) (zHr zEk (zAG)) (fun _ _=>rfl)) (zDK rfl zCc (v:=.str "0123456789abcdef") ⟨_,rfl⟩) (by with_unfolding_all rfl)))))),?_⟩
 walk_at "st"
 unfold Fg at q1 q2
 rcases Nat.eq_zero_or_pos l.length with p | p
 ·have e:=List.eq_nil_of_length_eq_zero p
  subst e
  walk_at "rd"
  exact q2 fun z=>z.1 rfl
 ·have c0:=zNz al (i:=0) p
  have c1:=zNz al (i:=l.length - 1) (by omega)
  have ne:l≠[]:=List.length_pos_iff.mp p
  walk_at "rd"
  ·rename_i h1 h2
   by_cases h3:0≤fv (l.getD (l.length - 1) 0)
   ·rw [decide_eq_true h3];exact q1 ⟨ne,h2,h3⟩
   ·rw [decide_eq_false h3];exact q2 fun z=>h3 z.2.2
  ·rename_i h1 h2
   exact q2 fun z=>h2 z.2.1
  ·rename_i h1
   exact absurd h1 (by rw [decide_eq_false ne];decide)
theorem zNb {f:Addr} {fd:FuncData} (F:Fun K "unsigned" "unsigned" zEK f fd) (B:Blt mg) (zEl:Has P w K mg base "ends_of" 1 ["style", "below"] (zDm K)) (zFf:Has P w K mg base "stands_between_figures" 1 ["body"] (zBb K)) (zKv:Has P w K mg base "signed" 2 ["body", "style", "below"] (zGw K)){zBG:Addr} (zG9:mg "NoCore" = some (.ref zBG)) (zK6:Exc K zBG) (n_NoCore:Nm K "NoCore" zBG):FnOk P w K mg base (CXE P w) 3 f fd ["core", "style"] (zDa K):=by
 refine F.okX zF1 (fun vs H Q E h=>?_) (fun cdv A outer s H vs Q E hr h tk=>?_)
 ·obtain ⟨t,x,rfl,hx,al,hl,q1,q2⟩:=h
  all_goals rfl
 refine ⟨_,zAE (zI4 PassesOwn.leaving rfl (zWD (zDI (zAA (zHt) (zAA (zHt) (zAH))))) (zBX (i:=2) zF1.nd rfl (Or.inl rfl)) (zAE (zAP (i:=3) zF1.nd rfl (Or.inl rfl) (zAJ zEl hr rfl (zAA (pv 1) (zAA (pv 2) (zAH)))))
  (zAE (zAP (i:=4) zF1.nd rfl (Or.inl rfl) (zBR zEW (pv 0) (zBI (zAO zAu B.z_len rfl zBl (zAA (zAX zAa (pv 3) (zAG) (fun _ _=>rfl)) (zAH)))) (zBI (zAS zCr (zAO zAu B.z_len rfl zBl (zAA (pv 0) (zAH))) (zAO zAu B.z_len rfl zBl (zAA (zAX zAa (pv 3) (zAG) (fun _ _=>rfl)) (zAH)))))))
  (zAI (zBC (PW.pt (zGR (zB2 (zAJ zFf hr rfl (zAA (pv 4) (zAH)))) (zD4 (zAT zCB (zAJ zKv hr rfl (zAA (pv 4) (zAA (pv 1) (zAA (pv 2) (zAH))))) (pv 0) (zAV _))))) (zAI (zAQ (zDI (zAA (pv 2) (zAA (pv 4) (zAH)))))) (zAW))))))
  (zAI (zF6 tk rfl zK6 rfl zG9 (zAA (zAe) (zAH)))),?_⟩
 obtain ⟨t,x,rfl,hx,al,hl,q1,q2⟩:=h
 all_goals walk_at "st"
 have q2':=fun n0 n1 H' g=>q2 n0 n1 zBG H' n_NoCore g
 walk_at "rd"
 rename_i p0 H0 g0 e0
 refine zUh (SqT.of e0) (fun i σ H'=>H'=H0∧(1≤i → ¬ Sgd x false t)∧(2≤i → ¬ Sgd x true t) ∧ ∃ r1 r2 r3:Option V,σ=[some (.str (T t)),some (.str x),r1,r2,r3]) ⟨rfl,fun z=>absurd z (by omega),fun z=>absurd z (by omega),none,none,none,rfl⟩ (fun i σ H' _ z=>by rw [z.1];exact SqT.of e0) ?_ ?_
 ·rintro i y σ H' hi ⟨rfl,n0,n1,r1,r2,r3,rfl⟩
  have hm:=List.mem_of_getElem? hi
  simp only [List.mem_cons,List.not_mem_nil,or_false] at hm
  have hy : ∃ b:Bool,y = .bl b∧(b=false↔i=0)∧(b=true↔i=1):=by
   match i,hi with
   | 0,hi=>cases hi;exact ⟨false,rfl,by simp,by simp⟩
   | 1,hi=>cases hi;exact ⟨true,rfl,by simp,by simp⟩
   | i+2,hi=>cases hi
  obtain ⟨b,rfl,hb0,hb1⟩:=hy
  have sl:=zJq hx b
  have nxt : ¬ Sgd x b t→(1≤i+1 → ¬ Sgd x false t)∧(2≤i+1 → ¬ Sgd x true t):=fun h=>by
   cases b
   ·have:=hb0.mp rfl;subst this
    exact ⟨fun _=>h,fun z=>absurd z (by omega)⟩
   ·have:=hb1.mp rfl;subst this
    exact ⟨fun _=>n0 (by omega),fun _=>h⟩
  have ab:Asc (bod x b t):=zT8 al
  have lb:=zTE (x:=x) (b:=b) (t:=t)
  rcases Nat.eq_zero_or_pos t.length with tz | tz
  ·have e:=List.eq_nil_of_length_eq_zero tz
   subst e
   have nb : ¬ Sgd x b []:=fun z=>by
    have:=List.length_pos_iff.mpr z.1.1
    rw [lb] at this;simp at this
   have anil:Asc []:=Asc.nil
   walk_at "rd"
   ·rename_i fg _ _ _ _ _
    exact absurd rfl fg.1
   ·rename_i fg _
    exact absurd rfl fg.1
   ·exact ⟨rfl,(nxt nb).1,(nxt nb).2,_,_,_,rfl⟩
  ·have eb:(t.take ((t.length:Int) - (stT x b).length).toNat).drop ((stL x b).length:Int).toNat=bod x b t:=by
    unfold bod;rw [Int.toNat_natCast,show ((t.length:Int) - (stT x b).length).toNat=t.length - (stT x b).length by omega]
   walk_at "rd"
   rw [eb]
   walk_at "rd"
   ·rename_i fg hc p1 H1 g1 e1
    exact q1 b ⟨fg,hc⟩ _ _ (g0.trans g1) e1
   ·rename_i fg hc
    have n:=nxt fun z=>hc z.2
    exact ⟨rfl,n.1,n.2,_,_,_,rfl⟩
   ·rename_i fg
    have n:=nxt fun z=>fg z.1
    exact ⟨rfl,n.1,n.2,_,_,_,rfl⟩
 ·rintro σ H' ⟨rfl,n0,n1,r1,r2,r3,rfl⟩
  walk_at "rd"
  exact ⟨small (by decide),q2' (n0 (by decide)) (n1 (by decide)) _ g0⟩
theorem zMj {f:Addr} {fd:FuncData} (F:Fun K "is_whole" "is_whole" zEQ f fd) (B:Blt mg):FnOk P w K mg base CX0 1 f fd ["thing"] (zEe K):=by
 refine F.ok zMo (fun vs H Q E h=>?_) (fun cdv A outer s H vs Q E hr h=>?_)
 ·obtain ⟨i,rfl,q⟩:=h
  rfl
 obtain ⟨i,rfl,q⟩:=h
 refine ⟨_,zAI (zAQ (zJk (zAO zCY B.z_isinstance rfl zA7 (zAA (pv 0) (zAA (zGJ rfl B.z_int zSq (v:=.ty "int") rfl) (zAH)))) (zJ2 (zSz (zAO zCY B.z_isinstance rfl zA7 (zAA (pv 0) (zAA (zGJ rfl B.z_bool zM7 (v:=.ty "bool") rfl) (zAH)))))))),?_⟩
 walk_at "st"
 walk_at "rd"
 exact q
theorem zIb {f:Addr} {fd:FuncData} (F:Fun K "common_divisor" "common_divisor" zBy f fd) (B:Blt mg):FnOk P w K mg base CX0 1 f fd ["one", "other"] (zCJ K):=by
 refine F.ok zBq (fun vs H Q E h=>?_) (fun cdv A outer s H vs Q E hr h=>?_)
 ·obtain ⟨a,b,rfl,q⟩:=h
  rfl
 obtain ⟨a,b,rfl,q⟩:=h
 refine ⟨_,zAE (zAP (i:=2) zBq.nd rfl (Or.inl rfl) (zAO zFa B.z_abs rfl zKg (zAA (pv 0) (zAH))))
  (zAE (zAP (i:=3) zBq.nd rfl (Or.inl rfl) (zAO zFa B.z_abs rfl zKg (zAA (pv 1) (zAH))))
  (zAE (zH6 PassesOwn.never (zAT zJZ (pv 3) (zAG) (zAV _)) (zAE (zAP (i:=4) zBq.nd rfl (Or.inl rfl) (zAS zBj (pv 2) (pv 3)))
  (zAE (zAP (i:=2) zBq.nd rfl (Or.inl rfl) (pv 3))
  (zAI (zAP (i:=3) zBq.nd rfl (Or.inl rfl) (pv 4))))))
  (zAI (zAQ (pv 2))))),?_⟩
 walk_at "st"
 walk_at "rd"
 rename_i k1 hk1 k2 hk2
 have ha:=zUQ hk1 hk2
 refine zKB (fun m σ H'=>H'=H ∧ ∃ (g l:Int) (r:Option V),σ=[some (.int a),some (.int b),some (.int g),some (.int l),r]∧0≤g∧0≤l∧Int.gcd g l=Int.gcd a b∧m=l.toNat) ⟨_,rfl,k1,k2,none,rfl,ha.1,ha.2.1,ha.2.2,rfl⟩ ?_
 rintro m σ H' ⟨rfl,g,l,r,rfl,hg,hl,hgl,rfl⟩
 walk_at "rd"
 ·rename_i hc
  have:l=0:=by omega
  subst this
  have e:g=((Int.gcd a b:Nat):Int):=by rw [← hgl];simp;omega
  rw [e];exact q
 ·rename_i hc
  have hc':0 < l:=by omega
  have h1:=Int.emod_nonneg g (show l≠0 by omega)
  have h2:=Int.emod_lt_of_pos g hc'
  exact ⟨_,by omega,rfl,_,_,_,rfl,by omega,h1,by rw [zRJ hg hc'];exact hgl,rfl⟩
theorem zKI {f:Addr} {fd:FuncData} (F:Fun K "is_fraction" "is_fraction" zCl f fd) (B:Blt mg) (zFe:Has P w K mg base "is_whole" 1 ["thing"] (zEe K)) (zD2:Has P w K mg base "common_divisor" 1 ["one", "other"] (zCJ K)):FnOk P w K mg base CX0 2 f fd ["thing"] (zDw K):=by
 refine F.ok zKM (fun vs H Q E h=>?_) (fun cdv A outer s H vs Q E hr h=>?_)
 ·obtain ⟨p,a,b,rfl,hp,h1,h2,q⟩:=h
  rfl
 obtain ⟨p,a,b,rfl,hp,h1,h2,q⟩:=h
 refine ⟨_,zAE (zBC (PW.pt (zHQ (zCo (zB2 (zAO zCY B.z_isinstance rfl zA7 (zAA (pv 0) (zAA (zGJ rfl B.z_tuple zRn (v:=.ty "tuple") rfl) (zAH)))))) (zEw (zAT zJZ (zAO zH3 B.z_len rfl zBl (zAA (pv 0) (zAH))) (zAG) (zAV _))))) (zAI (zAQ (zHt))) (zAW))
  (zAE (zBC (PW.pt (zHQ (zCo (zB2 (zAJ zFe hr rfl (zAA (zAX zAa (pv 0) (zAG) (fun _ _=>rfl)) (zAH))))) (zEw (zCo (zB2 (zAJ zFe hr rfl (zAA (zAX zAa (pv 0) (zAG) (fun _ _=>rfl)) (zAH)))))))) (zAI (zAQ (zHt))) (zAW))
  (zAI (zAQ (zJk (zCG zSA (zAX zAa (pv 0) (zAG) (fun _ _=>rfl)) (zAG) (zAV _)) (zJ2 (zCG zCB (zAJ zD2 hr rfl (zAA (zAX zAa (pv 0) (zAG) (fun _ _=>rfl)) (zAA (zAX zAa (pv 0) (zAG) (fun _ _=>rfl)) (zAH)))) (zAG) (zAV _))))))),?_⟩
 walk_at "st"
 have h3:((Int.gcd a b:Nat):Int)=1:=by rw [h2];rfl
 walk_at "rd"
 rw [decide_eq_true h3]
 exact q
theorem zLv {f:Addr} {fd:FuncData} (F:Fun K "ungrouped" "ungrouped" zDo f fd) (B:Blt mg) (zIl:Has P w K mg base "parts_of" 1 ["text", "size", "between"] (zEg K)) (zJr:Has P w K mg base "grouped" 2 ["text", "size", "mark"] (zFd K)) {zGh:Tok} (zGr:mg "MOST_SIGNS" = some (.int 40 zGh)){zAy:Addr} (zEO:mg "NoGroups" = some (.ref zAy)) (zId:Exc K zAy) (n_NoGroups:Nm K "NoGroups" zAy):FnOk P w K mg base (CXE2 P w) 3 f fd ["text", "size", "mark"] (zEt K):=by
 refine F.okX2 zIu (fun vs H Q E h=>?_) (fun cdv A outer s H vs Q E hr h tk=>?_)
 ·obtain ⟨t,z,m,rfl,h1,h2,h3,q1,q2⟩:=h
  all_goals rfl
 refine ⟨_,zAE (zAP (i:=3) zIu.nd rfl (Or.inl rfl) (zN5 (zAT zCB (pv 1) (zAG) (zAV _)) (pv 0) (zIJ PySem.F.plainAttrs_str PySem.F.slot_str_join PySem.F.type_str_join zJM (zBt (l:=[]) (by decide +kernel)) (zAA (zAJ zIl hr rfl (zAA (pv 0) (zAA (pv 1) (zAA (zAG) (zAH))))) (zAH)))))
  (zAE (zBC (PW.pt (zHQ (zCo (zKw zPF zPF (zAG) (zAO zAu B.z_len rfl zBl (zAA (pv 3) (zAH))) (zDK rfl zGr (v:=.int 40) ⟨_,rfl⟩))) (zEw (zAT zJZ (zAJ zJr hr rfl (zAA (pv 3) (zAA (pv 1) (zAA (pv 2) (zAH))))) (pv 0) (zAV _))))) (zAI (zF6 tk rfl zId rfl zEO (zAA (zAe) (zAH)))) (zAW))
  (zAI (zAQ (pv 3)))),?_⟩
 obtain ⟨t,z,m,rfl,h1,h2,h3,q1,q2⟩:=h
 all_goals walk_at "st"
 have lu:=zV5 (z:=z.toNat) (t:=t)
 have q2':=fun b H' g=>q2 b zAy H' n_NoGroups g
 rcases Decidable.em (z=0) with hz | hz
 ·subst hz
  have e:ug (Int.toNat 0) t=t:=rfl
  have eg:gr (Int.toNat 0) m t=t:=zIe
  unfold GG at q1 q2'
  rw [e,eg] at q1 q2'
  walk_at "rd"
  ·exact q1 ⟨by omega,by omega,rfl⟩ _ (by assumption)
  all_goals exact ⟨small (by decide),q2' (fun z=>by have:=z.1;have:=z.2.1;omega) _ (Same.refl _)⟩
 ·have bd:=zOB (a:=t) (g:=1) (show 0 < z.toNat by omega) t.length t.length (Nat.le_refl _)
  walk_at "rd"
  rename_i p' H' g' e'
  refine zKu e' (by rw [Lt_T,List.length_nil,show Int.toNat 1=1 from rfl];omega) ?_
  rw [Lt_T,zPe,show Int.toNat 1=1 from rfl,zV1 (by omega)]
  walk_at "rd"
  ·exact q1 ⟨by omega,by omega,by assumption⟩ _ (by walk_at "sm")
  ·rename_i hc
   exact ⟨small (by decide),q2' (fun z=>hc z.2.2) _ (by walk_at "sm")⟩
  all_goals exact ⟨small (by decide),q2' (fun z=>by have:=z.1;have:=z.2.1;omega) _ (by walk_at "sm")⟩
theorem zLd {f:Addr} {fd:FuncData} (F:Fun K "number_of" "number_of" zDn f fd) (B:Blt mg) {zFK:Tok} {zEf:Tok} (zFE:mg "MOST_FIGURES" = some (.int 240 zFK)) (zCc:mg "FIGURES" = some (.str "0123456789abcdef" zEf)){zAp:Addr} (zC2:mg "NoFigures" = some (.ref zAp)) (zFt:Exc K zAp) (n_NoFigures:Nm K "NoFigures" zAp):FnOk P w K mg base (CXE2 P w) 1 f fd ["text", "base"] (zEz K):=by
 refine F.okX2 zDy (fun vs H Q E h=>?_) (fun cdv A outer s H vs Q E hr h tk=>?_)
 ·obtain ⟨l,b,rfl,al,h1,h2,h3,h4,q1,q2⟩:=h
  all_goals rfl
 refine ⟨_,zAE (zBC (PW.pt (zHQ (zCo (zB2 (zAO zCY B.z_isinstance rfl zA7 (zAA (pv 0) (zAA (zGJ rfl B.z_str zP0 (v:=.ty "str") rfl) (zAH)))))) (zEw (zCo (zKw zPF zPF (zAG) (zAO zAu B.z_len rfl zBl (zAA (pv 0) (zAH))) (zDK rfl zFE (v:=.int 240) ⟨_,rfl⟩)))))) (zAI (zF6 tk rfl zFt rfl zC2 (zAA (zAe) (zAH)))) (zAW))
  (zAE (zAP (i:=2) zDy.nd rfl (Or.inl rfl) (zAG))
  (zAE (zI4 PassesOwn.leaving rfl (zQS (pv 0)) (zBX (i:=3) zDy.nd rfl (Or.inl rfl)) (zAE (zAP (i:=4) zDy.nd rfl (Or.inl rfl) (zIJ PySem.F.plainAttrs_str PySem.F.slot_str_find PySem.F.type_str_find zRj (zDK rfl zCc (v:=.str "0123456789abcdef") ⟨_,rfl⟩) (zAA (pv 3) (zAH))))
  (zAE (zBC (PW.pt (zHQ (zAT zKR (pv 4) (zAG) (zAV _)) (zEw (zAT zSA (pv 4) (pv 1) (zAV _))))) (zAI (zF6 tk rfl zFt rfl zC2 (zAA (zAe) (zAH)))) (zAW))
  (zAI (zAP (i:=2) zDy.nd rfl (Or.inl rfl) (zAS zBO (zAS zCO (pv 2) (pv 1)) (pv 4)))))))
  (zAI (zAQ (pv 2))))),?_⟩
 obtain ⟨l,b,rfl,al,h1,h2,h3,h4,q1,q2⟩:=h
 all_goals walk_at "st"
 have q2':=fun n=>q2 n zAp n_NoFigures
 walk_at "rd"
 refine zTy (fun i σ H'=>H'=H∧FigB b (l.take i) ∧ ∃ r1 r2:Option V,σ=[some (.str (T l)),some (.int b),some (.int (val b (l.take i))),r1,r2]) ⟨rfl,by rw [List.take_zero];exact fun _ z=>(nomatch z),none,none,rfl⟩ ?_ ?_
 ·rintro i c σ H' hi ⟨rfl,hf,r1,r2,rfl⟩
  have hm:=List.mem_of_getElem? hi
  have hc1:=al c hm
  walk_at "rd"
  ·exact ⟨small (by decide),q2' (fun z=>by have:=(z c hm).2.1;omega)⟩
  ·exact ⟨small (by decide),q2' (fun z=>by have:=(z c hm).2.2;omega)⟩
  ·refine ⟨rfl,hf.snoc hi hc1 (by omega) (by omega),some (.str (T [c])),some (.int (fv c)),?_⟩
   rw [List.take_succ,hi,show (some c).toList=[c] from rfl,zQm];rfl
 ·rintro σ H' ⟨rfl,hf,r1,r2,rfl⟩
  rw [List.take_length] at hf
  walk_at "rd"
  rw [List.take_length];exact q1 hf
theorem zMN {f:Addr} {fd:FuncData} (F:Fun K "whole_end" "whole_end" zDe f fd) (B:Blt mg){zA4:Addr} (zDu:mg "NoBody" = some (.ref zA4)) (zGI:Exc K zA4) (n_NoBody:Nm K "NoBody" zA4):FnOk P w K mg base (CXE P w) 1 f fd ["body", "places", "point"] (zFA K):=by
 refine F.okX zI3 (fun vs H Q E h=>?_) (fun cdv A outer s H vs Q E hr h tk=>?_)
 ·obtain ⟨t,p,pt,rfl,h1,h2,h3,q1,q2⟩:=h
  all_goals rfl
 refine ⟨_,zAE (zBC (zAT zCB (pv 1) (zAG) (zAV _)) (zAI (zAQ (zAO zAu B.z_len rfl zBl (zAA (pv 0) (zAH))))) (zAW))
  (zAE (zAP (i:=3) zI3.nd rfl (Or.inl rfl) (zAS zCr (zAS zCr (zAO zAu B.z_len rfl zBl (zAA (pv 0) (zAH))) (pv 1)) (zAG)))
  (zAE (zBC (PW.pt (zHQ (zAT zKR (pv 3) (zAG) (zAV _)) (zEw (zAT zJZ (zAX zDS (pv 0) (pv 3) (fun _ _=>rfl)) (pv 2) (zAV _))))) (zAI (zF6 tk rfl zGI rfl zDu (zAA (zAe) (zAH)))) (zAW))
  (zAI (zAQ (pv 3))))),?_⟩
 obtain ⟨t,p,pt,rfl,h1,h2,h3,q1,q2⟩:=h
 all_goals walk_at "st"
 have q2':=fun n=>q2 n zA4 n_NoBody
 walk_at "rd"
 ·rename_i hc
  subst hc
  exact q1 (.inl rfl)
 ·exact ⟨small (by decide),q2' (fun h=>h.elim (fun h=>by omega) fun h=>by have:=h.1;omega)⟩
 ·rename_i hc
  have e1:((t.length:Int) - p - 1).toNat=t.length - p.toNat - 1:=by omega
  rw [e1] at hc
  have e2:((zD3 p.toNat t).length:Int)=(t.length:Int) - p - 1:=by unfold zD3;rw [if_neg (by omega),List.length_take];omega
  have q':=q1 (.inr ⟨by omega,by simpa using hc⟩)
  rw [e2] at q';exact q'
 ·rename_i hc
  have e1:((t.length:Int) - p - 1).toNat=t.length - p.toNat - 1:=by omega
  rw [e1] at hc
  exact ⟨small (by decide),q2' (fun h=>h.elim (fun h=>by omega) fun h=>hc (by rw [h.2]))⟩
theorem zMZ {f:Addr} {fd:FuncData} (F:Fun K "number_in" "number_in" zDr f fd) (B:Blt mg) (zM5:HasX P w K mg base "whole_end" 1 ["body", "places", "point"] (zFA K)) (zNW:zQz P w K mg base "ungrouped" 3 ["text", "size", "mark"] (zEt K)) (zMs:zQz P w K mg base "number_of" 1 ["text", "base"] (zEz K)){zAy zAp zA4:Addr} (zEO:mg "NoGroups" = some (.ref zAy)) (zC2:mg "NoFigures" = some (.ref zAp)) (zDu:mg "NoBody" = some (.ref zA4)) (zGI:Exc K zA4) (n_NoGroups:Nm K "NoGroups" zAy) (n_NoFigures:Nm K "NoFigures" zAp) (n_NoBody:Nm K "NoBody" zA4) (xg:W.exmAny K (.ref zAy) [.ref zAy,.ref zAp]=some true) (xf:W.exmAny K (.ref zAp) [.ref zAy,.ref zAp]=some true):FnOk P w K mg base (CXE P w) 4 f fd ["body", "base", "places", "point", "size", "mark"] (zE1 K):=by
 refine F.okX zEx (fun vs H Q E h=>?_) (fun cdv A outer s H vs Q E hr h tk=>?_)
 ·obtain ⟨t,b,p,z,pt,m,rfl,h1,h2,h3,h4,h5,h6,h7,h8,q1,q2⟩:=h
  all_goals rfl
 refine ⟨_,zAE (zAP (i:=6) zEx.nd rfl (Or.inl rfl) (zR8 zM5 zMA hr rfl (zAA (pv 0) (zAA (pv 2) (zAA (pv 3) (zAH))))))
  (zAE (zTF rfl rfl rfl zGI zUW (fun _=>PassesOwnAt.leaving) rfl zEO rfl zC2 rfl zDu (fun _ _ _=>zAE (zAP (i:=7) zEx.nd rfl (Or.inl rfl) (zLZ zNW hr rfl (zAA (zBR zEW (pv 0) (zCa) (zBI (pv 6))) (zAA (pv 4) (zAA (pv 5) (zAH))))))
  (zAI (zAP (i:=8) zEx.nd rfl (Or.inl rfl) (zLZ zMs hr rfl (zAA (zAS zBe (pv 7) (zBR zEW (pv 0) (zBI (zAS zBO (pv 6) (zAG))) (zCa))) (zAA (pv 1) (zAH))))))))
  (zAE (zBC (PW.pt (zGR (zAT zHk (zAO zAu B.z_len rfl zBl (zAA (pv 7) (zAH))) (zAG) (zAV _)) (zD4 (zAT zCB (zAX zDS (pv 7) (zAG) (fun _ _=>rfl)) (zBt (l:=[48]) (by decide +kernel)) (zAV _))))) (zAI (zF6 tk rfl zGI rfl zDu (zAA (zAe) (zAH)))) (zAW))
  (zAI (zAQ (pv 8))))),?_⟩
 obtain ⟨t,b,p,z,pt,m,rfl,h1,h2,h3,h4,h5,h6,h7,h8,q1,q2⟩:=h
 all_goals walk_at "st"
 have q2':=fun n H' g=>q2 n zA4 H' n_NoBody g
 walk_at "rd"
 refine ⟨t,p,pt,rfl,h3,h4,h7,fun we=>?_,fun nw C nC=>?_⟩
 ·have t1:t.take ((zD3 p.toNat t).length:Int).toNat=zD3 p.toNat t:=by rw [Int.toNat_natCast];exact zPA
  have t2:t.drop (((zD3 p.toNat t).length:Int)+1).toNat=zJS p.toNat t:=by rw [show (((zD3 p.toNat t).length:Int)+1).toNat=(zD3 p.toNat t).length+1 by omega];exact zOz we
  have wl:=zP7 (p:=p.toNat) (t:=t)
  have rl:=zPt we
  have pa:=zRG (p:=p.toNat) (z:=z.toNat) h8
  walk_at "rd"
  refine zVb [some (.str (T t)),some (.int b),some (.int p),some (.str (T [pt])),some (.int z),some (.str (T [m])),some (.int (zD3 p.toNat t).length),none,none] ?_
  walk_at "rd"
  rw [t1]
  refine ⟨zD3 p.toNat t,z,m,rfl,h5,h6,by omega,fun gg H1 g1=>?_,fun ng C H1 nC g1=>?_⟩
  ·have g2:=gg.1;have g3:=gg.2.1
   walk_at "rd"
   rw [t2]
   walk_at "rd"
   refine ⟨_,b,rfl,pa,by rw [List.length_append];omega,by rw [List.length_append];omega,h1,h2,fun fb=>?_,fun nf C nC=>?_⟩
   ·walk_at "rd"
    ·rename_i c1 c2
     exact ⟨small (by decide),q2' (fun h=>h.2.2.2 ⟨by omega,by simpa using c2⟩) _ g1⟩
    ·rename_i c1 c2
     exact q1 ⟨we,gg,fb,fun h=>c2 (by rw [show Int.toNat 0=0 from rfl,h.2])⟩ _ g1
    ·rename_i c1
     exact q1 ⟨we,gg,fb,fun h=>c1 (by have:=h.1;omega)⟩ _ g1
   ·have:=Nm.eq nC n_NoFigures
    subst this
    exact ⟨_,rfl,xf,q2' (fun h=>nf h.2.2.1) _ g1⟩
  ·have:=Nm.eq nC n_NoGroups
   subst this
   exact ⟨_,rfl,xg,q2' (fun h=>ng h.2.1) _ g1⟩
 ·have:=Nm.eq nC n_NoBody
  subst this
  exact q2' (fun h=>nw h.1) _ (Same.refl _)
def zJc (L:Addr):List (Str × V):=[("names", .ref L)]
def wns:List Str:=["signs", "least", "most"]
def cns:List Str:=["names"]
theorem zTT {L:Addr} {m:Str} (h1:m ≠ "names"):(zJc L).lookup m=none:=(zBd h1).trans rfl
section
variable {H : Hp} {a C L : Addr} {wd : Int} {f : Nat} {x : Str} {st : Bool}
theorem zSL (F:zAZ K H a C wd f x st (zJc L)):zEn K H a "names" (.ref L):=F.own (by decide +kernel) zHP (List.mem_cons_self ..)
theorem zNX {m:Str} (F:zAZ K H a C wd f x st (zJc L)) (h0:m ∉ bns) (h1:m ≠ "names"):InsM H a C m:=F.meth h0 (zTT h1)
end
local macro_rules | `(tactic| walk_at "fld2")=>`(tactic| (exact zSL (by walk_at "fm")))
local macro_rules | `(tactic| walk_at "ins")=>`(tactic| exact zNX (by walk_at "fm") (by decide +kernel) (by decide +kernel))
def zCx (K:W.Frag):Sp:=fun vs H Q _=>∃ (C a dx:Addr) (wd:Int) (f:Nat) (x:Str) (st:Bool),vs=[.ref a,.int wd,.str (T [f]),.str x,.bl st]∧Cls K C∧zBw K C bns∧H a=some (.ins C dx [])∧Q .non (upd H a (.ins C dx (bfs wd f x st [])))
theorem zI6 {f:Addr} {fd:FuncData} (F:FunD K "__init__" "Form.__init__" zBL f fd) (B:Blt mg):FnOk P w K mg base CX0 1 f fd ["self", "width", "fill", "side", "strict"] (zCx K):=by
 refine F.ok zJE (fun vs H Q E h=>?_) (fun cdv A outer s H vs Q E hr h=>?_)
 ·obtain ⟨C,a,dx,wd,f,x,st,rfl,cl,na,e0,q⟩:=h
  rfl
 obtain ⟨C,a,dx,wd,f,x,st,rfl,cl,na,e0,q⟩:=h
 refine ⟨_,zAE (zD9 (pv 0) (pv 1) rfl)
  (zAE (zD9 (pv 0) (pv 2) rfl)
  (zAE (zD9 (pv 0) (pv 3) rfl)
  (zAI (zD9 (pv 0) (pv 4) rfl)))),?_⟩
 walk_at "st"
 walk_at "rd"
 refine zD7 e0 cl (na.at (by decide +kernel)) (by decide) ?_
 rw [zB9]
 walk_at "rd"
 refine zD7 zAU cl (na.at (by decide +kernel)) (by show 1 < 1000;decide) ?_
 rw [zCp,zAz (by decide +kernel),zB9]
 walk_at "rd"
 refine zD7 zAU cl (na.at (by decide +kernel)) (by show 2 < 1000;decide) ?_
 rw [zCp,zAz (by decide +kernel),zAz (by decide +kernel),zB9]
 walk_at "rd"
 refine zD7 zAU cl (na.at (by decide +kernel)) (by show 3 < 1000;decide) ?_
 rw [zCp,zAz (by decide +kernel),zAz (by decide +kernel),zAz (by decide +kernel),zB9]
 walk_at "rd"
 exact q
def zB8 (K:W.Frag) (C:Addr):Sp:=fun vs H Q _=>∃ (a dx:Addr) (sg:List Nat) (lo hi wd:Int) (f:Nat) (x:Str) (st:Bool),vs=[.ref a,.str (T sg),.int lo,.int hi,.int wd,.str (T [f]),.str x,.bl st]∧H a=some (.ins C dx [])∧Q .non (upd H a (.ins C dx (bfs wd f x st (zDj sg lo hi))))
theorem zHL {f:Addr} {fd:FuncData} (F:FunD K "__init__" "WordForm.__init__" zAk f fd) (B:Blt mg) {zBS:Addr} {zAD:Addr} (zEh:mg "Form" = some (.ref zBS)) (zEa:HasC P w K mg base CX0 zBS "__init__" 1 ["self", "width", "fill", "side", "strict"] (zCx K))(cl:Cls K zAD) (na:zBw K zAD (bns++wns)):FnOk P w K mg base CX0 2 f fd ["self", "signs", "least", "most", "width", "fill", "side", "strict"] (zB8 K zAD):=by
 refine F.ok zHO (fun vs H Q E h=>?_) (fun cdv A outer s H vs Q E hr h=>?_)
 ·obtain ⟨a,dx,sg,lo,hi,wd,f,x,st,rfl,e0,q⟩:=h
  rfl
 obtain ⟨a,dx,sg,lo,hi,wd,f,x,st,rfl,e0,q⟩:=h
 refine ⟨_,zAE (zFL (zJ6 zEa zBn hr rfl zEh (zAA (pv 0) (zAA (pv 4) (zAA (pv 5) (zAA (pv 6) (zAA (pv 7) (zAH))))))))
  (zAE (zD9 (pv 0) (pv 1) rfl)
  (zAE (zD9 (pv 0) (pv 2) rfl)
  (zAI (zD9 (pv 0) (pv 3) rfl)))),?_⟩
 walk_at "st"
 have na0:zBw K zAD bns:=⟨na.1,na.2.1,na.2.2.1,na.2.2.2.1,trivial⟩
 walk_at "rd"
 refine ⟨zAD,a,dx,wd,f,x,st,rfl,cl,na0,e0,?_⟩
 walk_at "rd"
 refine zD7 zAU cl (na.at (by decide +kernel)) (by show 4 < 1000;decide) ?_
 rw [zCp,zD0 (by decide +kernel),zB9]
 walk_at "rd"
 refine zD7 zAU cl (na.at (by decide +kernel)) (by show 5 < 1000;decide) ?_
 rw [zCp,zD0 (by decide +kernel),zAz (by decide +kernel),zB9]
 walk_at "rd"
 refine zD7 zAU cl (na.at (by decide +kernel)) (by show 6 < 1000;decide) ?_
 rw [zCp,zD0 (by decide +kernel),zAz (by decide +kernel),zAz (by decide +kernel),zB9]
 walk_at "rd"
 exact q
def zBu (K:W.Frag) (C:Addr):Sp:=fun vs H Q _=>∃ (a dx p:Addr) (ns:List (List Nat)) (wd:Int) (f:Nat) (x:Str) (st:Bool),vs=[.ref a,.ref p,.int wd,.str (T [f]),.str x,.bl st]∧H a=some (.ins C dx [])∧H p=some (.lst (tsV ns)) ∧
 ∀ L H',SB a H H'→H L=none→H' L=some (.lst (tsV ns))→H' a=some (.ins C dx (bfs wd f x st (zJc L)))→Q .non H'
theorem zGY {f:Addr} {fd:FuncData} (F:FunD K "__init__" "ChoiceForm.__init__" zAd f fd) (B:Blt mg) {zBS:Addr} {zAC:Addr} (zEh:mg "Form" = some (.ref zBS)) (zEa:HasC P w K mg base CX0 zBS "__init__" 1 ["self", "width", "fill", "side", "strict"] (zCx K))(cl:Cls K zAC) (na:zBw K zAC (bns++cns)):FnOk P w K mg base CX0 2 f fd ["self", "names", "width", "fill", "side", "strict"] (zBu K zAC):=by
 refine F.ok zGU (fun vs H Q E h=>?_) (fun cdv A outer s H vs Q E hr h=>?_)
 ·obtain ⟨a,dx,p,ns,wd,f,x,st,rfl,e0,hp,q⟩:=h
  rfl
 obtain ⟨a,dx,p,ns,wd,f,x,st,rfl,e0,hp,q⟩:=h
 refine ⟨_,zAE (zFL (zJ6 zEa zBn hr rfl zEh (zAA (pv 0) (zAA (pv 2) (zAA (pv 3) (zAA (pv 4) (zAA (pv 5) (zAH))))))))
  (zAI (zD9 (pv 0) (zFl zDq rfl B.z_list zIO (zAA (pv 1) (zAH))) rfl)),?_⟩
 walk_at "st"
 have na0:zBw K zAC bns:=⟨na.1,na.2.1,na.2.2.1,na.2.2.2.1,trivial⟩
 walk_at "rd"
 refine ⟨zAC,a,dx,wd,f,x,st,rfl,cl,na0,e0,?_⟩
 walk_at "rd"
 have nap:p≠a:=fun z=>by rw [z,e0] at hp;cases hp
 refine zNp (SqL.of (show upd H a (.ins zAC dx (bfs wd f x st [])) p=some (.lst (tsV ns)) by rw [zBV nap];exact hp)) fun l H1 g1 n1 e1=>?_
 have nla:l≠a:=fun z=>by rw [z,zAU] at n1;cases n1
 rw [zBV nla] at n1
 walk_at "rd"
 refine zD7 (g1.at zAU) cl (na.at (by decide +kernel)) (by show 4 < 1000;decide) ?_
 rw [zD0 (by decide +kernel),zB9]
 walk_at "rd"
 refine q l _ (fun b o hb e=>?_) n1 (by rw [zBV nla];exact e1) zAU
 rw [zBV hb]
 exact g1.at (by rw [zBV hb];exact e)
def zBv (K:W.Frag) (C:Addr):Sp:=fun vs H Q _=>∃ (a dx:Addr) (fg pl b:Int) (sn:Str) (z:Int) (m pt:Nat) (wy:Str) (wd:Int) (f:Nat) (x:Str) (st:Bool),vs=[.ref a,.int fg,.int pl,.int b,.str sn,.int z,.str (T [m]),.str (T [pt]),.str wy,.int wd,.str (T [f]),.str x,.bl st]∧H a=some (.ins C dx [])∧Q .non (upd H a (.ins C dx (bfs wd f x st (zB0 fg pl b sn z m pt wy))))
theorem zGZ {f:Addr} {fd:FuncData} (F:FunD K "__init__" "NumberForm.__init__" zAc f fd) (B:Blt mg) {zBS:Addr} {zAB:Addr} (zEh:mg "Form" = some (.ref zBS)) (zEa:HasC P w K mg base CX0 zBS "__init__" 1 ["self", "width", "fill", "side", "strict"] (zCx K))(cl:Cls K zAB) (na:zBw K zAB (bns++nns)):FnOk P w K mg base CX0 2 f fd ["self", "figures", "places", "base", "sign", "size", "mark", "point", "way", "width", "fill", "side", "strict"] (zBv K zAB):=by
 refine F.ok zGV (fun vs H Q E h=>?_) (fun cdv A outer s H vs Q E hr h=>?_)
 ·obtain ⟨a,dx,fg,pl,b,sn,z,m,pt,wy,wd,f,x,st,rfl,e0,q⟩:=h
  rfl
 obtain ⟨a,dx,fg,pl,b,sn,z,m,pt,wy,wd,f,x,st,rfl,e0,q⟩:=h
 refine ⟨_,zAE (zFL (zJ6 zEa zBn hr rfl zEh (zAA (pv 0) (zAA (pv 9) (zAA (pv 10) (zAA (pv 11) (zAA (pv 12) (zAH))))))))
  (zAE (zD9 (pv 0) (pv 1) rfl)
  (zAE (zD9 (pv 0) (pv 2) rfl)
  (zAE (zD9 (pv 0) (pv 3) rfl)
  (zAE (zD9 (pv 0) (pv 4) rfl)
  (zAE (zD9 (pv 0) (pv 5) rfl)
  (zAE (zD9 (pv 0) (pv 6) rfl)
  (zAE (zD9 (pv 0) (pv 7) rfl)
  (zAI (zD9 (pv 0) (pv 8) rfl))))))))),?_⟩
 walk_at "st"
 walk_at "rd"
 refine ⟨zAB,a,dx,wd,f,x,st,rfl,cl,⟨na.1,na.2.1,na.2.2.1,na.2.2.2.1,trivial⟩,e0,?_⟩
 walk_at "rd"
 refine zD7 zAU cl (na.at (by decide +kernel)) (by show 4 < 1000;decide) ?_
 rw [zCp,zD0 (by decide +kernel),zB9]
 walk_at "rd"
 refine zD7 zAU cl (na.at (by decide +kernel)) (by show 5 < 1000;decide) ?_
 rw [zCp,zD0 (by decide +kernel),zAz (by decide +kernel),zB9]
 walk_at "rd"
 refine zD7 zAU cl (na.at (by decide +kernel)) (by show 6 < 1000;decide) ?_
 rw [zCp,zD0 (by decide +kernel),zAz (by decide +kernel),zAz (by decide +kernel),zB9]
 walk_at "rd"
 refine zD7 zAU cl (na.at (by decide +kernel)) (by show 7 < 1000;decide) ?_
 rw [zCp,zD0 (by decide +kernel),zAz (by decide +kernel),zAz (by decide +kernel),zAz (by decide +kernel),zB9]
 walk_at "rd"
 refine zD7 zAU cl (na.at (by decide +kernel)) (by show 8 < 1000;decide) ?_
 rw [zCp,zD0 (by decide +kernel),zAz (by decide +kernel),zAz (by decide +kernel),zAz (by decide +kernel),zAz (by decide +kernel),zB9]
 walk_at "rd"
 refine zD7 zAU cl (na.at (by decide +kernel)) (by show 9 < 1000;decide) ?_
 rw [zCp,zD0 (by decide +kernel),zAz (by decide +kernel),zAz (by decide +kernel),zAz (by decide +kernel),zAz (by decide +kernel),zAz (by decide +kernel),zB9]
 walk_at "rd"
 refine zD7 zAU cl (na.at (by decide +kernel)) (by show 10 < 1000;decide) ?_
 rw [zCp,zD0 (by decide +kernel),zAz (by decide +kernel),zAz (by decide +kernel),zAz (by decide +kernel),zAz (by decide +kernel),zAz (by decide +kernel),zAz (by decide +kernel),zB9]
 walk_at "rd"
 refine zD7 zAU cl (na.at (by decide +kernel)) (by show 11 < 1000;decide) ?_
 rw [zCp,zD0 (by decide +kernel),zAz (by decide +kernel),zAz (by decide +kernel),zAz (by decide +kernel),zAz (by decide +kernel),zAz (by decide +kernel),zAz (by decide +kernel),zAz (by decide +kernel),zB9]
 walk_at "rd"
 exact q
theorem zEr {f:Addr} {fd:FuncData} (F:FunD K "is_too_great" "NumberForm.is_too_great" zAh f fd) (B:Blt mg) {zAB:Addr} (zFj:Has P w K mg base "power_of" 1 ["base", "times"] (zDX K)):FnOk P w K mg base CX0 2 f fd ["self", "number"] (zBY K zAB):=by
 refine F.ok zEq (fun vs H Q E h=>?_) (fun cdv A outer s H vs Q E hr h=>?_)
 ·obtain ⟨a,fg,pl,b,sn,z,m,pt,wy,wd,f,x,st,n,rfl,F0,ok,q⟩:=h
  rfl
 obtain ⟨a,fg,pl,b,sn,z,m,pt,wy,wd,f,x,st,n,rfl,F0,ok,q⟩:=h
 refine ⟨_,zAI (zAQ (zCG zSA (pv 1) (zAJ zFj hr rfl (zAA (zAg (pv 0) rfl) (zAA (zAS zBO (zAg (pv 0) rfl) (zAg (pv 0) rfl)) (zAH)))) (zAV _))),?_⟩
 walk_at "st"
 have o1:=ok.fg1;have o2:=ok.fg2;have o3:=ok.pl1;have o4:=ok.pl2;have o5:=ok.b1;have o6:=ok.b2
 walk_at "rd"
 exact q
theorem zH0 {fg pl b:Int} {sn:Str} {z:Int} {m pt:Nat} {wy:Str} {wd:Int} {f:Nat} {x:Str} {k:Int} (ok:NumS fg pl b sn z m pt wy wd f x) (h:k.natAbs < b.toNat ^ (fg+pl).toNat):NumB k.natAbs b pl∧Sgd sn (decide (k < 0)) (zHg pl b sn z m pt k)∧Asc (zHg pl b sn z m pt k)∧(zHg pl b sn z m pt k).length≤400:=by
 have o1:=ok.fg1;have o2:=ok.fg2;have o3:=ok.pl1;have o4:=ok.pl2;have o5:=ok.b1;have o6:=ok.b2
 have e1:b.toNat ^ (fg+pl).toNat≤b.toNat ^ (40+pl.toNat):=Nat.pow_le_pow_right (by omega) (by omega)
 have nb:NumB k.natAbs b pl:=⟨by omega,o5,o6,o3,o4,by omega⟩
 have bs:=zNr (z:=z.toNat) (b:=b.toNat) (p:=pl.toNat) (n:=(k.natAbs:Int).toNat) (by omega) (by omega) (by omega) nb.2.2.2.2.2 ok.pt ok.m
 have e:bod sn (decide (k < 0)) (zHg pl b sn z m pt k)=bdI k.natAbs b pl pt z m:=zQX
 have sl:=zSQ ok.sn (decide (k < 0)) (bdI k.natAbs b pl pt z m)
 have sa:=zP8 ok.sn (decide (k < 0))
 refine ⟨nb,⟨by rw [e];exact bs.1,by rw [e];rfl⟩,(sa.1.app bs.2.1).app sa.2,?_⟩
 have:=bs.2.2
 unfold zHg
 unfold bdI at sl ⊢
 omega
theorem zH9 {f:Addr} {fd:FuncData} (F:FunD K "core" "NumberForm.core" zBD f fd) (B:Blt mg) {zAB:Addr} (zAM:Cls K zAB) (zP6:Has P w K mg base "gridded" 2 ["value", "base", "places", "way"] (zG1 K)) (zPS:Has P w K mg base "body_of" 3 ["number", "base", "places", "point", "size", "mark"] (zHB K)) (zKv:Has P w K mg base "signed" 2 ["body", "style", "below"] (zGw K)) (zLS:Has P w K mg base "is_fraction" 2 ["thing"] (zDw K)) (zB6:HasM P w K mg base CX0 zAB "is_too_great" 2 ["self", "number"] (zBY K zAB)):FnOk P w K mg base CX0 4 f fd ["self", "value"] (zDM K zAB):=by
 refine F.ok zDN (fun vs H Q E h=>?_) (fun cdv A outer s H vs Q E hr h=>?_)
 ·obtain ⟨o,p,fg,pl,b,sn,z,m,pt,wy,wd,f,x,st,u,v,k,rfl,F0,ok,hp,gr,gc,gk,lim,q⟩:=h
  rfl
 obtain ⟨o,p,fg,pl,b,sn,z,m,pt,wy,wd,f,x,st,u,v,k,rfl,F0,ok,hp,gr,gc,gk,lim,q⟩:=h
 refine ⟨_,zAE (zBC (zCo (zB2 (zAJ zLS hr rfl (zAA (pv 1) (zAH))))) (zAI (zG0)) (zAW))
  (zAE (zAP (i:=2) zDN.nd rfl (Or.inl rfl) (zAJ zP6 hr rfl (zAA (pv 1) (zAA (zAg (pv 0) rfl) (zAA (zAg (pv 0) rfl) (zAA (zAg (pv 0) rfl) (zAH)))))))
  (zAE (zBC (zB2 (zAt zB6 zAM zBn hr (pv 0) (zAA (zAO zFa B.z_abs rfl zKg (zAA (pv 2) (zAH))) (zAH)))) (zAI (zG0)) (zAW))
  (zAE (zAP (i:=3) zDN.nd rfl (Or.inl rfl) (zAJ zPS hr rfl (zAA (zAO zFa B.z_abs rfl zKg (zAA (pv 2) (zAH))) (zAA (zAg (pv 0) rfl) (zAA (zAg (pv 0) rfl) (zAA (zAg (pv 0) rfl) (zAA (zAg (pv 0) rfl) (zAA (zAg (pv 0) rfl) (zAH)))))))))
  (zAI (zAQ (zAJ zKv hr rfl (zAA (pv 3) (zAA (zAg (pv 0) rfl) (zAA (zCG zKR (pv 2) (zAG) (zAV _)) (zAH)))))))))),?_⟩
 walk_at "st"
 have o1:=ok.fg1;have o2:=ok.fg2;have o3:=ok.pl1;have o4:=ok.pl2;have o5:=ok.b1;have o6:=ok.b2;have o7:=ok.sn;have o8:=ok.wy;have o9:=ok.z1;have o10:=ok.z2
 have g3:=gr.2.2.1
 have pw:((b.toNat ^ (fg+pl).toNat:Nat):Int)=b ^ (fg+pl).toNat:=by rw [Int.natCast_pow,Int.toNat_of_nonneg (by omega)]
 have hlt:k.natAbs < b.toNat ^ (fg+pl).toNat:=lim
 obtain ⟨nb,n2,n3,n4⟩:=zH0 ok hlt
 unfold zHg at q n4
 have sl:=zSQ o7 (decide (k < 0)) (bdI k.natAbs b pl pt z m)
 subst gk
 walk_at "rd"
 rename_i k1 hk1 k0 hk0
 have hk:k0=((grid wy u v (b ^ pl.toNat)).natAbs:Int):=by omega
 subst hk
 clear hk1 hk0
 generalize grid wy u v (b ^ pl.toNat)=kk at *
 refine zLj nb o9 o10 fun H1 g1=>?_
 have F1:=F0.same g1
 walk_at "rd"
 exact q _ g1
theorem zHU {f:Addr} {fd:FuncData} (F:FunD K "is_too_wide" "Form.is_too_wide" zA5 f fd) (B:Blt mg):FnOk P w K mg base CX0 1 f fd ["self", "core"] (zA3 K):=by
 refine F.ok zHi (fun vs H Q E h=>?_) (fun cdv A outer s H vs Q E hr h=>?_)
 ·obtain ⟨a,C,wd,f,x,st,more,t,rfl,F0,h0,q⟩:=h
  rfl
 obtain ⟨a,C,wd,f,x,st,more,t,rfl,F0,h0,q⟩:=h
 refine ⟨_,zAI (zAQ (zJk (zAg (pv 0) rfl) (zJ2 (zCG zHk (zAO zAu B.z_len rfl zBl (zAA (pv 1) (zAH))) (zAg (pv 0) rfl) (zAV _))))),?_⟩
 walk_at "st"
 walk_at "rd"
 ·rename_i hc;rw [hc] at q;exact q
 ·rename_i hc;rw [hc] at q;exact q
def zCz (K:W.Frag):Sp:=fun vs H Q _=>∃ (l t:List Nat) (w:Int) (f:Nat),vs=[.str (T l),.str (T t),.int w,.str (T [f])]∧l.length≤400∧t.length≤400∧w≤40 ∧ ∀ H',Same H H'→Q (.str (T (l++pad t (w - l.length) f "right"))) H'
theorem zJu {K:W.Frag} {l t:List Nat} {w:Int} {f:Nat} {H:Hp} {Q:VK} {E:XK} (h1:l.length≤400) (h2:t.length≤400) (h3:w≤40) (q : ∀ H',Same H H'→Q (.str (T (l++pad t (w - l.length) f "right"))) H'):zCz K ([.str (T l),.str (T t),.int w,.str (T [f])]++[]) H Q E:=⟨l,t,w,f,rfl,h1,h2,h3,q⟩
local macro_rules | `(tactic| walk_at "rdc")=>`(tactic| ((with_reducible refine' zJu ?h1 ?h2 ?h3 ?_);(case h1=>walk_at "tl");(case h2=>walk_at "tl");(case h3=>omega);intro H' g'))
def zCd (K:W.Frag) (C:Addr):Sp:=fun vs H Q _=>∃ (a:Addr) (fg pl b:Int) (sn:Str) (z:Int) (m pt:Nat) (wy:Str) (wd:Int) (f:Nat) (x:Str) (st:Bool) (t:List Nat) (bl:Bool),vs=[.ref a,.str (T t)]∧zAZ K H a C wd f x st (zB0 fg pl b sn z m pt wy)∧zFN sn∧Asc t∧t.length≤400∧Sgd sn bl t ∧ ∀ H',Same H H'→Q (.str (T (stL sn bl))) H'
theorem zPl {K:W.Frag} {C a:Addr} {fg pl b:Int} {sn:Str} {z:Int} {m pt:Nat} {wy:Str} {wd:Int} {f:Nat} {x:Str} {st:Bool} {t:List Nat} {bl:Bool} {H:Hp} {Q:VK} {E:XK} (h1:zAZ K H a C wd f x st (zB0 fg pl b sn z m pt wy)) (h2:zFN sn) (h3:Asc t) (h4:t.length≤400) (h5:Sgd sn bl t) (q : ∀ H',Same H H'→Q (.str (T (stL sn bl))) H'):zCd K C (.ref a::([.str (T t)]++[])) H Q E:=⟨a,fg,pl,b,sn,z,m,pt,wy,wd,f,x,st,t,bl,rfl,h1,h2,h3,h4,h5,q⟩
def nfil (ld t:List Nat) (wd:Int) (f:Nat) (x:Str):List Nat:=if x = "inside" then ld++pad (t.drop ld.length) (wd - ld.length) f "right" else pad t wd f x
theorem zJJ {f:Addr} {fd:FuncData} (F:Fun K "padded_inside" "padded_inside" zCC f fd) (B:Blt mg) (zHv:Has P w K mg base "padded" 2 ["text", "width", "fill", "side"] (zFn K)):FnOk P w K mg base CX0 3 f fd ["lead", "rest", "width", "fill"] (zCz K):=by
 refine F.ok zJI (fun vs H Q E h=>?_) (fun cdv A outer s H vs Q E hr h=>?_)
 ·obtain ⟨l,t,w,f,rfl,h1,h2,h3,q⟩:=h
  rfl
 obtain ⟨l,t,w,f,rfl,h1,h2,h3,q⟩:=h
 refine ⟨_,zAI (zAQ (zAS zBe (pv 0) (zAJ zHv hr rfl (zAA (pv 1) (zAA (zAS zCr (pv 2) (zAO zAu B.z_len rfl zBl (zAA (pv 0) (zAH)))) (zAA (pv 3) (zAA (zAe) (zAH)))))))),?_⟩
 walk_at "st"
 have pl:=zJU (f:=f) (zFJ (x:="right") (n:=t.length) (w:=w - l.length) (.inr (.inl rfl)) (by omega) (by omega))
 have b2:=zIM t.length (w - l.length) (by omega) (by omega)
 walk_at "rd"
 exact q _ (by assumption)
theorem zGt {f:Addr} {fd:FuncData} (F:FunD K "lead_of" "NumberForm.lead_of" zAw f fd) (B:Blt mg) {zAB:Addr} (zEl:Has P w K mg base "ends_of" 1 ["style", "below"] (zDm K)) (zIR:Has P w K mg base "unsigned" 3 ["core", "style"] (spc (zDa K))):FnOk P w K mg base CX0 4 f fd ["self", "core"] (zCd K zAB):=by
 refine F.ok zGq (fun vs H Q E h=>?_) (fun cdv A outer s H vs Q E hr h=>?_)
 ·obtain ⟨a,fg,pl,b,sn,z,m,pt,wy,wd,f,x,st,t,bl,rfl,F0,hs,ha,hl,sd,q⟩:=h
  rfl
 obtain ⟨a,fg,pl,b,sn,z,m,pt,wy,wd,f,x,st,t,bl,rfl,F0,hs,ha,hl,sd,q⟩:=h
 refine ⟨_,zAI (zAQ (zAX zAa (zAJ zEl hr rfl (zAA (zAg (pv 0) rfl) (zAA (zAX zAa (zAJ zIR hr rfl (zAA (pv 1) (zAA (zAg (pv 0) rfl) (zAH)))) (zAG) (fun _ _=>rfl)) (zAH)))) (zAG) (fun _ _=>rfl))),?_⟩
 walk_at "st"
 walk_at "rd"
 refine zOS hs ha (by omega) sd fun p H1 g1 e1=>?_
 have F1:=F0.same g1
 walk_at "rd"
 exact q _ g1
inductive FlA (K:W.Frag) (H:Hp) (a cN:Addr) (wd:Int) (f:Nat) (x:Str) (st:Bool) (t:List Nat):List Nat→Prop
 | num {fg pl b:Int} {sn:Str} {z:Int} {m pt:Nat} {wy:Str} {bl:Bool} (F:zAZ K H a cN wd f x st (zB0 fg pl b sn z m pt wy)) (sx:zK5 x) (hs:zFN sn) (ha:Asc t) (sd:Sgd sn bl t):FlA K H a cN wd f x st t (stL sn bl)
 | oth {C:Addr} {more:List (Str × V)} (F:zAZ K H a C wd f x st more) (sx:Side x):FlA K H a cN wd f x st t []
def zCw (K:W.Frag) (cN:Addr):Sp:=fun vs H Q _=>∃ (a:Addr) (wd:Int) (f:Nat) (x:Str) (st:Bool) (t ld:List Nat),vs=[.ref a,.str (T t)]∧FlA K H a cN wd f x st t ld∧t.length≤400∧wd≤40 ∧ ∀ H',Same H H'→Q (.str (T (nfil ld t wd f x))) H'
theorem zK1 {K:W.Frag} {a cN:Addr} {wd:Int} {f:Nat} {x:Str} {st:Bool} {t ld:List Nat} {H:Hp} {Q:VK} {E:XK} (h1:FlA K H a cN wd f x st t ld) (h2:t.length≤400) (h4:wd≤40) (q : ∀ H',Same H H'→Q (.str (T (nfil ld t wd f x))) H'):zCw K cN (.ref a::([.str (T t)]++[])) H Q E:=⟨a,wd,f,x,st,t,ld,rfl,h1,h2,h4,q⟩
theorem zN6 {x:Str} (h:Side x):x ≠ "inside" := by
 rcases h with rfl | rfl | rfl <;> decide +kernel
theorem zKT {f : Addr} {fd : FuncData} (F : FunD K "filled" "Form.filled" zBg f fd) (B : Blt mg) {zAB : Addr} (zAM : Cls K zAB) (zJv : Has P w K mg base "padded_inside" 3 ["lead", "rest", "width", "fill"] (zCz K)) (zHv : Has P w K mg base "padded" 2 ["text", "width", "fill", "side"] (zFn K)) (zHG : HasM P w K mg base CX0 zAB "lead_of" 4 ["self", "core"] (zCd K zAB)) : FnOk P w K mg base CX0 5 f fd ["self", "core"] (zCw K zAB) := by
  refine F.ok zHS (fun vs H Q E h => ?_) (fun cdv A outer s H vs Q E hr h => ?_)
  · obtain ⟨a, wd, f, x, st, t, ld, rfl, D0, hl, hw, q⟩ := h
    rfl
  obtain ⟨a, wd, f, x, st, t, ld, rfl, D0, hl, hw, q⟩ := h
  refine ⟨_, zAE (zBC (zAT zJZ (zAg (pv 0) rfl) (zAe) (zAV _)) (zAI (zAQ (zAJ zHv hr rfl (zAA (pv 1) (zAA (zAg (pv 0) rfl) (zAA (zAg (pv 0) rfl) (zAA (zAg (pv 0) rfl) (zAH)))))))) (zAW))
    (zAE (zAP (i := 2) zHS.nd rfl (Or.inl rfl) (zAt zHG zAM zBn hr (pv 0) (zAA (pv 1) (zAH))))
    (zAI (zAQ (zAJ zJv hr rfl (zAA (pv 2) (zAA (zBR zEW (pv 1) (zBI (zAO zAu B.z_len rfl zBl (zAA (pv 2) (zAH)))) (zCa)) (zAA (zAg (pv 0) rfl) (zAA (zAg (pv 0) rfl) (zAH))))))))), ?_⟩
  walk_at "st"
  cases D0 with
  | @num fg pl b sn z m pt wy bl F0 sx hs ha sd =>
    have sl := zJq hs bl
    walk_at "rd"
    · rename_i hc
      refine zPl F0 hs ha hl sd fun H1 g1 => ?_
      have F1 := F0.same g1
      walk_at "rd"
      rename_i H2 g2
      have q' := q _ (g1.trans g2)
      unfold nfil at q'
      rw [if_pos hc] at q'
      rw [Int.toNat_natCast]
      exact q'
    · rename_i hc
      have sx' : Side x := sx.elim id fun z => absurd z hc
      refine zNw sx' hl hw fun H1 g1 => ?_
      have q' := q _ g1
      unfold nfil at q'
      rw [if_neg hc] at q'
      exact q'
  | oth F0 sx =>
    have hc := zN6 sx
    walk_at "rd"
    have q' := q _ (by assumption)
    unfold nfil at q'
    rw [if_neg hc] at q'
    exact q'
def zCN (K:W.Frag) (C:Addr):Sp:=fun vs H Q _=>∃ (a:Addr) (sg:List Nat) (lo hi wd:Int) (f:Nat) (x:Str) (st:Bool) (t:List Nat),vs=[.ref a,.str (T t)]∧zAZ K H a C wd f x st (zDj sg lo hi)∧t.length≤400 ∧ ∀ H',Same H H'→Q (.bl (decide (Isw sg lo hi t))) H'
theorem zQ0 {K:W.Frag} {C a:Addr} {sg:List Nat} {lo hi wd:Int} {f:Nat} {x:Str} {st:Bool} {t:List Nat} {H:Hp} {Q:VK} {E:XK} (h1:zAZ K H a C wd f x st (zDj sg lo hi)) (h2:t.length≤400) (q : ∀ H',Same H H'→Q (.bl (decide (Isw sg lo hi t))) H'):zCN K C (.ref a::([.str (T t)]++[])) H Q E:=⟨a,sg,lo,hi,wd,f,x,st,t,rfl,h1,h2,q⟩
local macro_rules | `(tactic| walk_at "rdc")=>`(tactic| ((with_reducible refine' zQ0 ?h1 ?h2 ?_);(case h1=>walk_at "fm");(case h2=>omega);intro H' g'))
theorem zHW {f:Addr} {fd:FuncData} (F:FunD K "is_word" "WordForm.is_word" zA8 f fd) (B:Blt mg) {zAD:Addr}:FnOk P w K mg base CX0 1 f fd ["self", "thing"] (zCN K zAD):=by
 refine F.ok zHn (fun vs H Q E h=>?_) (fun cdv A outer s H vs Q E hr h=>?_)
 ·obtain ⟨a,sg,lo,hi,wd,f,x,st,t,rfl,F0,h0,q⟩:=h
  rfl
 obtain ⟨a,sg,lo,hi,wd,f,x,st,t,rfl,F0,h0,q⟩:=h
 refine ⟨_,zAE (zBC (PW.pt (zHQ (zCo (zB2 (zAO zCY B.z_isinstance rfl zA7 (zAA (pv 1) (zAA (zGJ rfl B.z_str zP0 (v:=.ty "str") rfl) (zAH)))))) (zEw (zCo (zKw zPF zPF (zAg (pv 0) rfl) (zAO zAu B.z_len rfl zBl (zAA (pv 1) (zAH))) (zAg (pv 0) rfl)))))) (zAI (zAQ (zHt))) (zAW))
  (zAI (zAQ (zAO (zQa rfl) B.z_all rfl zWd (zAA (zGG (cl:=[("self", s.heap.objs.size+1+0)]) (fr:=["self"]) (is:=[0]) rfl rfl ⟨rfl,trivial⟩ rfl ⟨⟨rfl,rfl,Or.inl rfl⟩,trivial⟩ (by decide) (by decide +kernel) rfl (by decide +kernel) rfl (zQS (pv 1)) (fun _ _ _ _=>zG8) (fun _ _ _ _=>zCG zQB (pv 0) (zF3 (K:=K) rfl (pv 1) rfl) (by with_unfolding_all rfl))) (zAH))))),?_⟩
 walk_at "st"
 walk_at "rd"
 ·rename_i c1 c2
  refine zRH (Nat.le_of_lt (zCF (by omega))) (fun i ys H'=>H'=H∧ys=((t.take i).map fun c=>decide (c ∈ sg)).map V.bl) ⟨rfl,rfl⟩ (fun i ys H' hi z=>by rw [z.2];simp;omega) ?_ ?_
  ·rintro i c ys H' hc hi ⟨rfl,rfl⟩
   walk_at "rd"
   refine nxC hi ⟨rfl,?_⟩
   rw [List.take_succ,hc,List.map_append,List.map_append];rfl
  ·rintro ys H' ⟨rfl,rfl⟩ p H2 g2 e2
   rw [List.take_length] at e2
   walk_at "rd"
   have e:(t.map fun c=>decide (c ∈ sg)).all id=decide (Isw sg lo hi t):=by
    rw [Bool.eq_iff_iff,List.all_eq_true,decide_eq_true_iff]
    constructor
    ·intro h
     exact ⟨⟨c1,c2⟩,fun c hc=>of_decide_eq_true (h _ (List.mem_map.mpr ⟨c,hc,rfl⟩))⟩
    ·rintro h b hb
     obtain ⟨c,hc,rfl⟩:=List.mem_map.mp hb
     exact decide_eq_true (h.2 c hc)
   rw [e]
   exact q _ g2
 ·rename_i c1 c2
  have q':=q _ (Same.refl _)
  rw [decide_eq_false (fun z=>c2 z.1.2)] at q';exact q'
 ·rename_i c1
  have q':=q _ (Same.refl _)
  rw [decide_eq_false (fun z=>c1 z.1.1)] at q';exact q'
def zGP (K:W.Frag) (C:Addr):Sp:=fun vs H Q _=>∃ (a:Addr) (sg:List Nat) (lo hi wd:Int) (f:Nat) (x:Str) (st:Bool) (t:List Nat),vs=[.ref a,.str (T t)]∧zAZ K H a C wd f x st (zDj sg lo hi)∧t.length≤400∧Isw sg lo hi t ∧ ∀ H',Same H H'→Q (.str (T t)) H'
theorem zJH {f:Addr} {fd:FuncData} (F:FunD K "core" "WordForm.core" zBQ f fd) (B:Blt mg) {zAD:Addr} (zAb:Cls K zAD) (zDO:HasM P w K mg base CX0 zAD "is_word" 1 ["self", "thing"] (zCN K zAD)):FnOk P w K mg base CX0 2 f fd ["self", "value"] (zGP K zAD):=by
 refine F.ok zI8 (fun vs H Q E h=>?_) (fun cdv A outer s H vs Q E hr h=>?_)
 ·obtain ⟨a,sg,lo,hi,wd,f,x,st,t,rfl,F0,h0,iw,q⟩:=h
  rfl
 obtain ⟨a,sg,lo,hi,wd,f,x,st,t,rfl,F0,h0,iw,q⟩:=h
 refine ⟨_,zAE (zBC (zCo (zB2 (zAt zDO zAb zBn hr (pv 0) (zAA (pv 1) (zAH))))) (zAI (zG0)) (zAW))
  (zAI (zAQ (pv 1))),?_⟩
 walk_at "st"
 walk_at "rd"
 rename_i H' g'
 exact q _ g'
def zE8 (K:W.Frag) (C:Addr):Sp:=fun vs H Q _=>∃ (a L:Addr) (ns:List (List Nat)) (wd:Int) (f:Nat) (x:Str) (st:Bool) (t:List Nat),vs=[.ref a,.str (T t)]∧zAZ K H a C wd f x st (zJc L)∧H L=some (.lst (tsV ns))∧t ∈ ns ∧ ∀ H',Same H H'→Q (.str (T t)) H'
theorem zIG {f:Addr} {fd:FuncData} (F:FunD K "core" "ChoiceForm.core" zBB f fd) (B:Blt mg) {zAC:Addr}:FnOk P w K mg base CX0 1 f fd ["self", "value"] (zE8 K zAC):=by
 refine F.ok zIF (fun vs H Q E h=>?_) (fun cdv A outer s H vs Q E hr h=>?_)
 ·obtain ⟨a,L,ns,wd,f,x,st,t,rfl,F0,e0,hm,q⟩:=h
  rfl
 obtain ⟨a,L,ns,wd,f,x,st,t,rfl,F0,e0,hm,q⟩:=h
 refine ⟨_,zAE (zBC (PW.pt (zHQ (zCo (zB2 (zAO zCY B.z_isinstance rfl zA7 (zAA (pv 1) (zAA (zGJ rfl B.z_str zP0 (v:=.ty "str") rfl) (zAH)))))) (zEw (zAT zMP (pv 1) (zAg (pv 0) rfl) (by with_unfolding_all rfl))))) (zAI (zG0)) (zAW))
  (zAI (zAQ (pv 1))),?_⟩
 walk_at "st"
 walk_at "rd"
 exact q _ (Same.refl _)
inductive CoA (K:W.Frag) (H:Hp) (o:Addr) (v:V) (cN cW cC:Addr) (wd:Int) (f:Nat) (x:Str) (st:Bool):List Nat→List Nat→Prop
 | num {p:Addr} {fg pl b:Int} {sn:Str} {z:Int} {m pt:Nat} {wy:Str} {u d k:Int} (hv:v = .ref p) (F:zAZ K H o cN wd f x st (zB0 fg pl b sn z m pt wy)) (ok:NumS fg pl b sn z m pt wy wd f x) (hp:H p=some (.tup [.int u,.int d])) (gb:GrB u d) (gc:Int.gcd u d=1) (gk:grid wy u d (b ^ pl.toNat)=k) (lim:LimN fg pl b k):CoA K H o v cN cW cC wd f x st (zHg pl b sn z m pt k) (stL sn (decide (k < 0)))
 | word {sg:List Nat} {lo hi:Int} {t:List Nat} (hv:v = .str (T t)) (F:zAZ K H o cW wd f x st (zDj sg lo hi)) (h0:t.length≤400) (iw:Isw sg lo hi t) (sx:Side x):CoA K H o v cN cW cC wd f x st t []
 | cho {L:Addr} {ns:List (List Nat)} {t:List Nat} (hv:v = .str (T t)) (F:zAZ K H o cC wd f x st (zJc L)) (e:H L=some (.lst (tsV ns))) (h0:t.length≤400) (hm:t ∈ ns) (sx:Side x):CoA K H o v cN cW cC wd f x st t []
def zGB (K:W.Frag) (cN cW cC cT:Addr):Sp:=fun vs H Q E=>∃ (o:Addr) (v:V) (wd:Int) (f:Nat) (x:Str) (st:Bool) (t ld:List Nat),vs=[.ref o,v]∧CoA K H o v cN cW cC wd f x st t ld∧wd≤40∧((st && decide (wd < (t.length:Int)))=false → ∀ H',Same H H'→Q (.str (T (nfil ld t wd f x))) H')∧((st && decide (wd < (t.length:Int)))=true → ∀ H',Same H H'→E (.ref cT) none H')
theorem zNi {f : Addr} {fd : FuncData} (F : FunD K "put" "Form.put" zCi f fd) (B : Blt mg) {zAB : Addr} {zAD : Addr} {zAC : Addr} {zA1 : Addr} (zAM : Cls K zAB) (zAb : Cls K zAD) (zAY : Cls K zAC) (zFk : mg "TooWide" = some (.ref zA1)) (zJe : Exc K zA1) (zIo : HasM P w K mg base CX0 zAB "core" 4 ["self", "value"] (zDM K zAB)) (zKE : HasM P w K mg base CX0 zAD "core" 2 ["self", "value"] (zGP K zAD)) (zII : HasM P w K mg base CX0 zAC "core" 1 ["self", "value"] (zE8 K zAC)) (zBJ : HasM P w K mg base CX0 zAB "is_too_wide" 1 ["self", "core"] (zA3 K)) (zCU : HasM P w K mg base CX0 zAD "is_too_wide" 1 ["self", "core"] (zA3 K)) (zCE : HasM P w K mg base CX0 zAC "is_too_wide" 1 ["self", "core"] (zA3 K)) (zHY : HasM P w K mg base CX0 zAB "filled" 5 ["self", "core"] (zCw K zAB)) (zIS : HasM P w K mg base CX0 zAD "filled" 5 ["self", "core"] (zCw K zAB)) (zHX : HasM P w K mg base CX0 zAC "filled" 5 ["self", "core"] (zCw K zAB)) : FnOk P w K mg base (CXE P w) 6 f fd ["self", "value"] (zGB K zAB zAD zAC zA1) := by
  refine F.okX zJh (fun vs H Q E h => ?_) (fun cdv A outer s H vs Q E hr h tk pp => ?_)
  · obtain ⟨o, v, wd, f, x, st, t, ld, rfl, D0, hw, q, e⟩ := h
    all_goals rfl
  refine ⟨_, zAE (zAP (i := 2) zJh.nd rfl (Or.inl rfl) (zD5 (zAt zIo zAM zBn hr (pv 0) (zAA (pv 1) (zAH))) (zD5 (zAt zKE zAb zBn hr (pv 0) (zAA (pv 1) (zAH))) (zAt zII zAY zBn hr (pv 0) (zAA (pv 1) (zAH))))))
    (zAE (zBC (zB2 (zD5 (zAt zBJ zAM zBn hr (pv 0) (zAA (pv 2) (zAH))) (zD5 (zAt zCU zAb zBn hr (pv 0) (zAA (pv 2) (zAH))) (zAt zCE zAY zBn hr (pv 0) (zAA (pv 2) (zAH)))))) (zAI (zF6 tk rfl zJe rfl zFk (zAA (zAe) (zAH)))) (zAW))
    (zAI (zAQ (zD5 (zAt zHY zAM zBn hr (pv 0) (zAA (pv 2) (zAH))) (zD5 (zAt zIS zAb zBn hr (pv 0) (zAA (pv 2) (zAH))) (zAt zHX zAY zBn hr (pv 0) (zAA (pv 2) (zAH)))))))), ?_⟩
  obtain ⟨o, v, wd, f, x, st, t, ld, rfl, D0, hw, q, e⟩ := h
  all_goals walk_at "st"
  cases D0 with
  | @num p fg pl b sn z m pt wy u d k hv F0 ok hp gb gc gk lim =>
    subst hv
    obtain ⟨nb, n2, n3, n4⟩ := zH0 ok lim
    walk_at "rd"
    refine zH2 ?_
    walk_at "rd"
    refine zVs F0 ok hp gb gc gk lim fun H1 g1 => ?_
    have F1 := F0.same g1
    walk_at "rd"
    refine zH2 ?_
    walk_at "rd"
    · rename_i hc
      exact ⟨small (by decide), e hc _ g1⟩
    · rename_i hc
      refine zH2 ?_
      walk_at "rd"
      refine zK1 (.num F1 ok.x ok.sn n3 n2) n4 hw fun H2 g2 => ?_
      exact q (by simpa using hc) _ (g1.trans g2)
  | @word sg lo hi t hv F0 h0 iw sx =>
    subst hv
    walk_at "rd"
    refine zFC (zH2 ?_)
    walk_at "rd"
    refine ⟨o, sg, lo, hi, wd, f, x, st, t, rfl, F0, h0, iw, fun H1 g1 => ?_⟩
    have F1 := F0.same g1
    walk_at "rd"
    refine zFC (zH2 ?_)
    walk_at "rd"
    · rename_i hc
      exact ⟨small (by decide), e hc _ g1⟩
    · rename_i hc
      refine zFC (zH2 ?_)
      walk_at "rd"
      refine zK1 (.oth F1 sx) h0 hw fun H2 g2 => ?_
      exact q (by simpa using hc) _ (g1.trans g2)
  | @cho L ns t hv F0 e0 h0 hm sx =>
    subst hv
    walk_at "rd"
    refine zFC (zFC ?_)
    walk_at "rd"
    refine ⟨o, L, ns, wd, f, x, st, t, rfl, F0, e0, hm, fun H1 g1 => ?_⟩
    have F1 := F0.same g1
    walk_at "rd"
    refine zFC (zFC ?_)
    walk_at "rd"
    · rename_i hc
      exact ⟨small (by decide), e hc _ g1⟩
    · rename_i hc
      refine zFC (zFC ?_)
      walk_at "rd"
      refine zK1 (.oth F1 sx) h0 hw fun H2 g2 => ?_
      exact q (by simpa using hc) _ (g1.trans g2)
abbrev Ce:=List (List Nat)
inductive Al {α:Type} (R:V→α→Prop):List V→List α→Prop
 | nil:Al R [] []
 | cons {v:V} {a:α} {vs:List V} {as:List α} (h:R v a) (t:Al R vs as):Al R (v::vs) (a::as)
section
variable {α : Type} {R R' : V → α → Prop}
theorem Al.len {vs:List V} {as:List α} (h:Al R vs as):vs.length=as.length:=by
 induction h with
 | nil=>rfl
 | cons _ _ ih=>rw [List.length_cons,List.length_cons,ih]
theorem Al.imp {vs:List V} {as:List α} (h:Al R vs as) (f : ∀ v a,R v a→R' v a):Al R' vs as:=by
 induction h with
 | nil=>exact .nil
 | cons h _ ih=>exact .cons (f _ _ h) ih
theorem Al.app {vs us:List V} {as bs:List α} (h:Al R vs as) (k:Al R us bs):Al R (vs++us) (as++bs):=by
 induction h with
 | nil=>exact k
 | cons h _ ih=>exact .cons h ih
theorem Al.one {v:V} {a:α} (h:R v a):Al R [v] [a]:=.cons h .nil
theorem Al.get {vs : List V} {as : List α} (h : Al R vs as) : ∀ {i : Nat} {v : V}, vs[i]? = some v → ∃ a, as[i]? = some a ∧ R v a := by
  induction h with
  | nil => intro i v e; simp at e
  | cons h _ ih =>
    intro i v e
    cases i with
    | zero => cases e; exact ⟨_, rfl, h⟩
    | succ i => exact ih e
theorem Al.filter {vs : List V} {as : List α} {p : α → Bool} (h : Al R vs as) : ∃ us, Al R us (as.filter p) := by
  induction h with
  | nil => exact ⟨[], .nil⟩
  | @cons v a vs as h _ ih =>
    obtain ⟨us, k⟩ := ih
    rw [List.filter_cons]
    cases p a with
    | false => exact ⟨us, k⟩
    | true => exact ⟨v :: us, .cons h k⟩
end
theorem none_of {H H':Hp} {a:Addr} (g:Same H H') (n:H' a=none):H a=none:=by
 cases hl:H a with
 | none=>rfl
 | some u=>rw [g.at hl] at n;cases n
theorem zBK (l:Ce):(tsV l).length=l.length:=List.length_map _
theorem zVz {H:Hp} {a l:Addr} {o:HO} (n:H a=none) (e:H l=some o):a≠l:=fun z=>by rw [z,e] at n;cases n
theorem zFG (a b:List (List Nat)):tsV a++tsV b=tsV (a++b):=by unfold tsV;rw [List.map_append]
theorem zGe {l:Ce} {i:Nat} {v:V} (h:(tsV l)[i]? = some v) : ∃ c,l[i]? = some c∧v = .str (T c):=by
 unfold tsV at h
 rw [List.getElem?_map] at h
 cases hc:l[i]? with
 | none=>rw [hc] at h;cases h
 | some c=>rw [hc] at h;cases h;exact ⟨c,rfl,rfl⟩
def zEb (K:W.Frag):Sp:=fun vs H Q _=>∃ (t:List Nat) (w:Int) (f:Nat) (x:Str),vs=[.str (T t),.int w,.str (T [f]),.str x]∧Side x∧t.length≤400∧w≤40 ∧ -1000≤w ∧ ∀ p H',Same H H'→H p=none→H' p=some (.lst (tsV (zCM t w f x)))→Q (.ref p) H'
theorem zOo {K:W.Frag} {t:List Nat} {w:Int} {f:Nat} {x:Str} {H:Hp} {Q:VK} {E:XK} (h1:Side x) (h2:t.length≤400) (h3:w≤40) (h4 : -1000≤w) (q : ∀ p H',Same H H'→H p=none→H' p=some (.lst (tsV (zCM t w f x)))→Q (.ref p) H'):zEb K ([.str (T t),.int w,.str (T [f]),.str x]++[]) H Q E:=⟨t,w,f,x,rfl,h1,h2,h3,h4,q⟩
local macro_rules | `(tactic| walk_at "rdc")=>`(tactic| ((with_reducible refine' zOo ?h1 ?h2 ?h3 ?h4 ?_);(case h1=>first | assumption | exact .inl rfl | exact .inr (.inl rfl) | exact .inr (.inr rfl));(case h2=>walk_at "tl");(case h3=>omega);(case h4=>omega);intro p' H' g' n' e'))
local macro_rules | `(tactic| walk_at "rdc")=>`(tactic| ((with_reducible refine' zLM ?hz ?_);(case hz=>exact small (by simp only [List.length_cons,List.length_nil];decide));intro p' H' g' n' e'))
local macro_rules | `(tactic| walk_at "rd1")=>`(tactic| ((with_reducible refine' zLM ?hz ?_);(case hz=>exact small (by simp only [List.length_cons,List.length_nil];decide));intro p' H' g' n' e'))
theorem zMk {f:Addr} {fd:FuncData} (F:Fun K "stripped" "stripped" zEL f fd) (B:Blt mg) (zJt:Has P w K mg base "pads_of" 1 ["length", "width", "side"] (zFm K)) (zHv:Has P w K mg base "padded" 2 ["text", "width", "fill", "side"] (zFn K)):FnOk P w K mg base CX0 3 f fd ["text", "width", "fill", "side"] (zEb K):=by
 refine F.ok zEd (fun vs H Q E h=>?_) (fun cdv A outer s H vs Q E hr h=>?_)
 ·obtain ⟨t,w,f,x,rfl,hs,h0,hw,hw1,q⟩:=h
  rfl
 obtain ⟨t,w,f,x,rfl,hs,h0,hw,hw1,q⟩:=h
 refine ⟨_,zAE (zBC (zAT zHk (zAO zAu B.z_len rfl zBl (zAA (pv 0) (zAH))) (pv 1) (zAV _)) (zAI (zAQ (zBE (zAA (pv 0) (zAH))))) (zAW))
  (zAE (zAP (i:=4) zEd.nd rfl (Or.inl rfl) (zBE (zAH)))
  (zAE (zI4 PassesOwn.never rfl (zFP rfl B.z_range (zAA (zAS zBO (pv 1) (zAG)) (zAH))) (zBX (i:=5) zEd.nd rfl (Or.inl rfl)) (zAE (zAP (i:=6) zEd.nd rfl (Or.inl rfl) (zAX zAa (zAJ zJt hr rfl (zAA (pv 5) (zAA (pv 1) (zAA (pv 3) (zAH))))) (zAG) (fun _ _=>rfl)))
  (zAE (zAP (i:=7) zEd.nd rfl (Or.inl rfl) (zBR zEW (pv 0) (zBI (pv 6)) (zBI (zAS zBO (pv 6) (pv 5)))))
  (zAI (zBC (zAT zCB (zAJ zHv hr rfl (zAA (pv 7) (zAA (pv 1) (zAA (pv 2) (zAA (pv 3) (zAH)))))) (pv 0) (zAV _)) (zAI (zFL (zIJ PySem.F.plainAttrs_list PySem.F.slot_list_append PySem.F.type_list_append zGo (pv 4) (zAA (pv 7) (zAH))))) (zAW))))))
  (zAI (zAQ (pv 4))))),?_⟩
 walk_at "st"
 walk_at "rd"
 ·rename_i hc p' H' g' n' e'
  exact q _ _ g' n' (by rw [e',zHm hc];rfl)
 ·rename_i hc p' H0 g' n' e'
  refine zKr (by omega) (by omega) (fun i σ H2=>Same H H2 ∧ ∃ (r1 r2 r3:Option V),H2 p'=some (.lst (tsV (((List.range i).filter (gd t w f x)).map (sl t w x))))∧σ=[some (.str (T t)),some (.int w),some (.str (T [f])),some (.str x),some (.ref p'),r1,r2,r3]) ⟨g',none,none,none,by rw [e'];rfl,rfl⟩ ?_ ?_
  ·rintro i σ H2 hi ⟨gg,r1,r2,r3,e2,rfl⟩
   obtain ⟨b1,b2,b3,_⟩:=zFJ (n:=(i:Int)) hs (by omega) hw
   have bl:=zIM (i:Int) w (by omega) hw
   rw [show (0+(i:Int))=(i:Int) by omega]
   have hl:(((List.range i).filter (gd t w f x)).map (sl t w x)).length≤i:=by
    rw [List.length_map];exact Nat.le_trans (List.length_filter_le _ _) (by rw [List.length_range];exact Nat.le_refl _)
   walk_at "rd"
   ·rename_i p1 H1 g1 e1 H3 g3 hc3
    refine zLO (g3.at (g1.at e2)) (zCF (by rw [List.length_map];omega)) ?_
    refine ⟨zAq (gg.trans (g1.trans g3)) n',_,_,_,?_,rfl⟩
    rw [zAU,List.range_succ,List.filter_append,List.filter_cons,if_pos (show gd t w f x i=true from decide_eq_true hc3),List.filter_nil,List.map_append]
    unfold tsV
    rw [List.map_append];rfl
   ·rename_i p1 H1 g1 e1 H3 g3 hc3
    refine ⟨gg.trans (g1.trans g3),_,_,_,?_,rfl⟩
    rw [g3.at (g1.at e2),List.range_succ,List.filter_append,List.filter_cons,if_neg (show ¬ gd t w f x i=true from fun z=>hc3 (of_decide_eq_true z)),List.filter_nil,List.append_nil]
  ·rintro σ H2 ⟨gg,r1,r2,r3,e2,rfl⟩
   walk_at "rd"
   refine q _ _ gg n' ?_
   rw [e2];unfold zCM;rw [if_neg hc]
theorem zV6 {t:List Nat} {w:Int} {x:Str} {n:Nat}:(sl t w x n).length≤t.length∧(Asc t→Asc (sl t w x n)):=by
 unfold sl
 exact ⟨by rw [List.length_drop,List.length_take];omega,fun h=>(h.take _).drop _⟩
theorem zGp {t:List Nat} {w:Int} {f:Nat} {x:Str} : ∀ c ∈ zCM t w f x,c.length≤t.length∧(Asc t→Asc c):=fun c hc=>by
 unfold zCM at hc
 split at hc
 ·rw [List.mem_singleton.mp hc];exact ⟨Nat.le_refl _,id⟩
 ·obtain ⟨n,_,rfl⟩:=List.mem_map.mp hc
  exact zV6
theorem zIN {t:List Nat} {w:Int} {f:Nat} {x:Str} (h:w≤40):(zCM t w f x).length≤41:=by
 unfold zCM
 split
 ·simp
 ·rw [List.length_map]
  refine Nat.le_trans (List.length_filter_le _ _) ?_
  rw [List.length_range];omega
def nwd (wd:Int) (st:Bool) (c:List Nat):Bool:=!(st && decide (wd < (c.length:Int)))
def ucs (t:List Nat) (wd:Int) (f:Nat) (x:Str) (st:Bool):List (List Nat):=(zCM t wd f x).filter (nwd wd st)
theorem zOA {t:List Nat} {wd:Int} {f:Nat} {x:Str} {st:Bool} (h:wd≤40):(ucs t wd f x st).length≤41 ∧ ∀ c ∈ ucs t wd f x st,c.length≤t.length∧(Asc t→Asc c):=
 ⟨Nat.le_trans (List.length_filter_le _ _) (zIN h),fun c hc=>zGp c (List.mem_filter.mp hc).1⟩
theorem fil1 {α:Type} {p:α→Bool} {cs:List α} {i:Nat} {c:α} (hc:cs[i]? = some c):(cs.take (i+1)).filter p=(cs.take i).filter p++[c].filter p:=by rw [List.take_succ,hc,List.filter_append];rfl
inductive UnA (K:W.Frag) (H:Hp) (a cN cW cC:Addr) (wd:Int) (f:Nat) (x:Str) (st:Bool):Prop
 | num {fg pl b:Int} {sn:Str} {z:Int} {m pt:Nat} {wy:Str} (F:zAZ K H a cN wd f x st (zB0 fg pl b sn z m pt wy)):UnA K H a cN cW cC wd f x st
 | word {sg:List Nat} {lo hi:Int} (F:zAZ K H a cW wd f x st (zDj sg lo hi)):UnA K H a cN cW cC wd f x st
 | cho {L:Addr} (F:zAZ K H a cC wd f x st (zJc L)):UnA K H a cN cW cC wd f x st
def zCQ (K:W.Frag) (cN cW cC:Addr):Sp:=fun vs H Q _=>∃ (a:Addr) (wd:Int) (f:Nat) (x:Str) (st:Bool) (t:List Nat),vs=[.ref a,.str (T t)]∧UnA K H a cN cW cC wd f x st∧Side x∧t.length≤400∧0≤wd∧wd≤40 ∧ ∀ l H',Same H H'→H' l=some (.lst (tsV (ucs t wd f x st)))→Q (.ref l) H'
theorem zIh {K:W.Frag} {cN cW cC a:Addr} {wd:Int} {f:Nat} {x:Str} {st:Bool} {t:List Nat} {H:Hp} {Q:VK} {E:XK} (h1:UnA K H a cN cW cC wd f x st) (h2:Side x) (h3:t.length≤400) (h4:0≤wd) (h5:wd≤40) (q : ∀ l H',Same H H'→H' l=some (.lst (tsV (ucs t wd f x st)))→Q (.ref l) H'):zCQ K cN cW cC (.ref a::([.str (T t)]++[])) H Q E:=⟨a,wd,f,x,st,t,rfl,h1,h2,h3,h4,h5,q⟩
theorem zJK {f : Addr} {fd : FuncData} (F : FunD K "unfilled" "Form.unfilled" zBM f fd) (B : Blt mg) {zAB : Addr} {zAD : Addr} {zAC : Addr} (zAM : Cls K zAB) (zAb : Cls K zAD) (zAY : Cls K zAC) (zIm : Has P w K mg base "stripped" 3 ["text", "width", "fill", "side"] (zEb K)) (zBJ : HasM P w K mg base CX0 zAB "is_too_wide" 1 ["self", "core"] (zA3 K)) (zCU : HasM P w K mg base CX0 zAD "is_too_wide" 1 ["self", "core"] (zA3 K)) (zCE : HasM P w K mg base CX0 zAC "is_too_wide" 1 ["self", "core"] (zA3 K)) : FnOk P w K mg base CX0 4 f fd ["self", "text"] (zCQ K zAB zAD zAC) := by
  refine F.ok zI9 (fun vs H Q E h => ?_) (fun cdv A outer s H vs Q E hr h => ?_)
  · obtain ⟨a, wd, f, x, st, t, rfl, D0, hs, h3, w0, w1, q⟩ := h
    rfl
  obtain ⟨a, wd, f, x, st, t, rfl, D0, hs, h3, w0, w1, q⟩ := h
  refine ⟨_, zAI (zAQ (zGG (cl := [("self", s.heap.objs.size + 1 + 0)]) (fr := ["self"]) (is := [0]) rfl rfl ⟨rfl, trivial⟩ rfl ⟨⟨rfl, rfl, Or.inl rfl⟩, trivial⟩ (by decide) (by decide +kernel) rfl (by decide +kernel) rfl (zGz (zAJ zIm hr rfl (zAA (pv 1) (zAA (zAg (pv 0) rfl) (zAA (zAg (pv 0) rfl) (zAA (zAg (pv 0) rfl) (zAH))))))) (fun _ _ _ _ => zH7 (zCo (zB2 (zD5 (zAt zBJ zAM zBn hr (pv 1) (zAA (pv 0) (zAH))) (zD5 (zAt zCU zAb zBn hr (pv 1) (zAA (pv 0) (zAH))) (zAt zCE zAY zBn hr (pv 1) (zAA (pv 0) (zAH)))))))) (fun _ _ _ _ => pv 0))), ?_⟩
  walk_at "st"
  have sl := zIN (t := t) (f := f) (x := x) w1
  have sb := zGp (t := t) (w := wd) (f := f) (x := x)
  cases D0 with
  | num F0 =>
    walk_at "rd"
    rename_i l1 H1 g1 n1 e1
    have F1 := F0.same g1
    refine zCs (SqL.of e1) (small (by rw [zBK]; omega)) (fun i ys H' => Same H1 H' ∧ ys = tsV (((zCM t wd f x).take i).filter (nwd wd st))) ⟨Same.refl _, rfl⟩ (fun i ys H' hi h => ⟨SqL.of (h.1.at e1), by rw [h.2, zBK]; exact Nat.le_trans (List.length_filter_le _ _) (by rw [List.length_take]; omega)⟩) ?_ ?_
    · rintro i v ys H2 hv hi ⟨g2, rfl⟩
      obtain ⟨c, hc, rfl⟩ := zGe hv
      have F2 := F1.same g2
      have cb := sb c (List.mem_of_getElem? hc)
      walk_at "rd"
      refine zH2 ?_
      walk_at "rd"
      · rename_i hk
        refine nxC hi ⟨g2, ?_⟩
        rw [fil1 hc, List.filter_cons_of_pos (show nwd wd st c = true from hk), ← zFG]; rfl
      · rename_i hk
        refine nxC hi ⟨g2, ?_⟩
        rw [fil1 hc, List.filter_cons_of_neg (show ¬ nwd wd st c = true by unfold nwd; rw [hk]; decide), List.filter_nil, List.append_nil]
    · rintro ys H2 ⟨g2, rfl⟩ p2 H3 g3 n3 e3
      rw [List.take_of_length_le (by rw [zBK]; exact Nat.le_refl _)] at e3
      exact q _ _ (g1.trans (g2.trans g3)) e3
  | word F0 =>
    walk_at "rd"
    rename_i l1 H1 g1 n1 e1
    have F1 := F0.same g1
    refine zCs (SqL.of e1) (small (by rw [zBK]; omega)) (fun i ys H' => Same H1 H' ∧ ys = tsV (((zCM t wd f x).take i).filter (nwd wd st))) ⟨Same.refl _, rfl⟩ (fun i ys H' hi h => ⟨SqL.of (h.1.at e1), by rw [h.2, zBK]; exact Nat.le_trans (List.length_filter_le _ _) (by rw [List.length_take]; omega)⟩) ?_ ?_
    · rintro i v ys H2 hv hi ⟨g2, rfl⟩
      obtain ⟨c, hc, rfl⟩ := zGe hv
      have F2 := F1.same g2
      have cb := sb c (List.mem_of_getElem? hc)
      walk_at "rd"
      refine zFC (zH2 ?_)
      walk_at "rd"
      · rename_i hk
        refine nxC hi ⟨g2, ?_⟩
        rw [fil1 hc, List.filter_cons_of_pos (show nwd wd st c = true from hk), ← zFG]; rfl
      · rename_i hk
        refine nxC hi ⟨g2, ?_⟩
        rw [fil1 hc, List.filter_cons_of_neg (show ¬ nwd wd st c = true by unfold nwd; rw [hk]; decide), List.filter_nil, List.append_nil]
    · rintro ys H2 ⟨g2, rfl⟩ p2 H3 g3 n3 e3
      rw [List.take_of_length_le (by rw [zBK]; exact Nat.le_refl _)] at e3
      exact q _ _ (g1.trans (g2.trans g3)) e3
  | cho F0 =>
    walk_at "rd"
    rename_i l1 H1 g1 n1 e1
    have F1 := F0.same g1
    refine zCs (SqL.of e1) (small (by rw [zBK]; omega)) (fun i ys H' => Same H1 H' ∧ ys = tsV (((zCM t wd f x).take i).filter (nwd wd st))) ⟨Same.refl _, rfl⟩ (fun i ys H' hi h => ⟨SqL.of (h.1.at e1), by rw [h.2, zBK]; exact Nat.le_trans (List.length_filter_le _ _) (by rw [List.length_take]; omega)⟩) ?_ ?_
    · rintro i v ys H2 hv hi ⟨g2, rfl⟩
      obtain ⟨c, hc, rfl⟩ := zGe hv
      have F2 := F1.same g2
      have cb := sb c (List.mem_of_getElem? hc)
      walk_at "rd"
      refine zFC (zFC ?_)
      walk_at "rd"
      · rename_i hk
        refine nxC hi ⟨g2, ?_⟩
        rw [fil1 hc, List.filter_cons_of_pos (show nwd wd st c = true from hk), ← zFG]; rfl
      · rename_i hk
        refine nxC hi ⟨g2, ?_⟩
        rw [fil1 hc, List.filter_cons_of_neg (show ¬ nwd wd st c = true by unfold nwd; rw [hk]; decide), List.filter_nil, List.append_nil]
    · rintro ys H2 ⟨g2, rfl⟩ p2 H3 g3 n3 e3
      rw [List.take_of_length_le (by rw [zBK]; exact Nat.le_refl _)] at e3
      exact q _ _ (g1.trans (g2.trans g3)) e3
def zFz (K:W.Frag):Sp:=fun vs H Q _=>∃ t b:Int,vs=[.int t,.int b]∧0 < b∧b < 10000000000000000000000000000000000000000000000000000000000000000000000000000000000000000000000000000000000000000000000000000000000000000000000000000000000000000000000000000000000000000000000 ∧ ∀ p H',Same H H'→H' p=some (.tup [.int (low1 t b),.int (low2 t b)])→Q (.ref p) H'
theorem zOj {K:W.Frag} {t b:Int} {H:Hp} {Q:VK} {E:XK} (h1:0 < b) (h2:b < 10000000000000000000000000000000000000000000000000000000000000000000000000000000000000000000000000000000000000000000000000000000000000000000000000000000000000000000000000000000000000000000000) (q : ∀ p H',Same H H'→H' p=some (.tup [.int (low1 t b),.int (low2 t b)])→Q (.ref p) H'):zFz K ([.int t,.int b]++[]) H Q E:=⟨t,b,rfl,h1,h2,q⟩
theorem zNQ {f:Addr} {fd:FuncData} (F:Fun K "fraction" "fraction" zEM f fd) (B:Blt mg) (zD2:Has P w K mg base "common_divisor" 1 ["one", "other"] (zCJ K)) (zFe:Has P w K mg base "is_whole" 1 ["thing"] (zEe K)):FnOk P w K mg base CX0 2 f fd ["top", "bottom"] (zFz K):=by
 refine F.ok zHf (fun vs H Q E h=>?_) (fun cdv A outer s H vs Q E hr h=>?_)
 ·obtain ⟨t,b,rfl,hb,h1,q⟩:=h
  rfl
 obtain ⟨t,b,rfl,hb,h1,q⟩:=h
 refine ⟨_,zAE (zBC (PW.pt (zHQ (zCo (zB2 (zAJ zFe hr rfl (zAA (pv 0) (zAH))))) (zEw (zCo (zB2 (zAJ zFe hr rfl (zAA (pv 1) (zAH)))))))) (zAI (zG0)) (zAW))
  (zAE (zBC (zAT zCB (pv 1) (zAG) (zAV _)) (zAI (zG0)) (zAW))
  (zAE (zAP (i:=2) zHf.nd rfl (Or.inl rfl) (zAJ zD2 hr rfl (zAA (pv 0) (zAA (pv 1) (zAH)))))
  (zAE (zBC (zAT zKR (pv 1) (zAG) (zAV _)) (zAI (zAP (i:=2) zHf.nd rfl (Or.inl rfl) (zHr zEk (pv 2)))) (zAW))
  (zAI (zAQ (zDI (zAA (zAS zCA (pv 0) (pv 2)) (zAA (zAS zCA (pv 1) (pv 2)) (zAH))))))))),?_⟩
 walk_at "st"
 have e0:0 < (Int.gcd t b:Int):=by have:=Int.gcd_pos_of_ne_zero_right t (show b≠0 by omega);omega
 have e1:(Int.gcd t b:Int)≤b.natAbs:=by have:=Int.gcd_le_natAbs_right (a:=t) (b:=b) (by omega);omega
 walk_at "rd"
 refine q _ _ (by walk_at "sm") ?_
 unfold low1 low2 lowS;rw [if_neg (show ¬ b < 0 by omega),Int.fdiv_eq_ediv_of_nonneg _ (Int.le_of_lt e0),Int.fdiv_eq_ediv_of_nonneg _ (Int.le_of_lt e0)];assumption
local macro_rules | `(tactic| walk_at "rdc")=>`(tactic| ((with_reducible refine' zOj ?h1 ?h2 ?_);(case h1=>omega);(case h2=>omega);intro p' H' g' e'))
def zEA (K:W.Frag):Sp:=fun vs H Q _=>∃ k c t:Int,vs=[.int k,.int c,.int t]∧2≤c∧c≤16∧0≤t∧t≤6 ∧ ∀ p H',Same H H'→H' p=some (.tup [.int (low1 k (c ^ t.toNat)),.int (low2 k (c ^ t.toNat))])→Q (.ref p) H'
theorem zMR {K:W.Frag} {k c t:Int} {H:Hp} {Q:VK} {E:XK} (h1:2≤c) (h2:c≤16) (h3:0≤t) (h4:t≤6) (q : ∀ p H',Same H H'→H' p=some (.tup [.int (low1 k (c ^ t.toNat)),.int (low2 k (c ^ t.toNat))])→Q (.ref p) H'):zEA K ([.int k,.int c,.int t]++[]) H Q E:=⟨k,c,t,rfl,h1,h2,h3,h4,q⟩
theorem zK8 {f:Addr} {fd:FuncData} (F:Fun K "grid_value" "grid_value" zDB f fd) (B:Blt mg) (zOh:Has P w K mg base "fraction" 2 ["top", "bottom"] (zFz K)) (zFj:Has P w K mg base "power_of" 1 ["base", "times"] (zDX K)):FnOk P w K mg base CX0 3 f fd ["k", "base", "places"] (zEA K):=by
 refine F.ok zLE (fun vs H Q E h=>?_) (fun cdv A outer s H vs Q E hr h=>?_)
 ·obtain ⟨k,c,t,rfl,h1,h2,h3,h4,q⟩:=h
  rfl
 obtain ⟨k,c,t,rfl,h1,h2,h3,h4,q⟩:=h
 refine ⟨_,zAI (zAQ (zAJ zOh hr rfl (zAA (pv 0) (zAA (zAJ zFj hr rfl (zAA (pv 1) (zAA (pv 2) (zAH)))) (zAH))))),?_⟩
 walk_at "st"
 have z:=pw6 (t:=t) h1 h2 h4
 walk_at "rd"
 exact q _ _ (by walk_at "sm") (by assumption)
local macro_rules | `(tactic| walk_at "rdc")=>`(tactic| ((with_reducible refine' zMR ?h1 ?h2 ?h3 ?h4 ?_);(case h1=>omega);(case h2=>omega);(case h3=>omega);(case h4=>omega);intro p' H' g' e'))
theorem zTe {X:Cx} {K:W.Frag} (e:X.K=K):IxR X (rIxT K):=e ▸ zAa
open Classical in
noncomputable def zBx (fg pl b:Int) (sn:Str) (z:Int) (m pt:Nat) (bl:Bool) (t:List Nat):Option Int:=
 if Sgd sn bl t∧IsB b pl.toNat pt z.toNat m (bod sn bl t)∧bval b pl.toNat z.toNat (bod sn bl t) < b ^ (fg+pl).toNat∧(bl=true→0 < bval b pl.toNat z.toNat (bod sn bl t)) then some (if bl=true then -bval b pl.toNat z.toNat (bod sn bl t) else bval b pl.toNat z.toNat (bod sn bl t)) else none
def oV:Option Int→V
 | some k=>.int k
 | none=>.non
def zB4 (K:W.Frag) (C:Addr):Sp:=fun vs H Q _=>∃ (a:Addr) (fg pl b:Int) (sn:Str) (z:Int) (m pt:Nat) (wy:Str) (wd:Int) (f:Nat) (x:Str) (st:Bool) (t:List Nat) (bl:Bool),vs=[.ref a,.str (T t),.bl bl]∧zAZ K H a C wd f x st (zB0 fg pl b sn z m pt wy)∧NumS fg pl b sn z m pt wy wd f x∧Asc t∧t.length≤400 ∧ ∀ H',Same H H'→Q (oV (zBx fg pl b sn z m pt bl t)) H'
theorem zFM {f:Addr} {fd:FuncData} (F:FunD K "number_with" "NumberForm.number_with" zAj f fd) (B:Blt mg) {zAB:Addr} {zBG:Addr} {zA4:Addr} (zAM:Cls K zAB) (zG9:mg "NoCore" = some (.ref zBG)) (zDu:mg "NoBody" = some (.ref zA4)) (zIR:HasX P w K mg base "unsigned" 3 ["core", "style"] (zDa K)) (zM6:HasX P w K mg base "number_in" 4 ["body", "base", "places", "point", "size", "mark"] (zE1 K)) (zB6:HasM P w K mg base CX0 zAB "is_too_great" 2 ["self", "number"] (zBY K zAB))(n_NoCore:Nm K "NoCore" zBG) (n_NoBody:Nm K "NoBody" zA4) (xc:W.exmAny K (.ref zBG) [.ref zBG,.ref zA4]=some true) (xb:W.exmAny K (.ref zA4) [.ref zBG,.ref zA4]=some true):FnOk P w K mg base CX0 5 f fd ["self", "core", "below"] (zB4 K zAB):=by
 refine F.ok zB3 (fun vs H Q E h=>?_) (fun cdv A outer s H vs Q E hr h=>?_)
 ·obtain ⟨a,fg,pl,b,sn,z,m,pt,wy,wd,f,x,st,t,bl,rfl,F0,ok,at',ht,q⟩:=h
  rfl
 obtain ⟨a,fg,pl,b,sn,z,m,pt,wy,wd,f,x,st,t,bl,rfl,F0,ok,at',ht,q⟩:=h
 refine ⟨_,zAE (zPk rfl rfl (fun _ _ _=>zAE (zAP (i:=3) zB3.nd rfl (Or.inl rfl) (zNt zIR hr rfl (zAA (pv 1) (zAA (zF3 (K:=K) rfl (pv 0) rfl) (zAH)))))
  (zAI (zAP (i:=4) zB3.nd rfl (Or.inl rfl) (zNt zM6 hr rfl (zAA (zAX (zTe (K:=K) rfl) (pv 3) (zAG) (fun _ _=>rfl)) (zAA (zF3 (K:=K) rfl (pv 0) rfl) (zAA (zF3 (K:=K) rfl (pv 0) rfl) (zAA (zF3 (K:=K) rfl (pv 0) rfl) (zAA (zF3 (K:=K) rfl (pv 0) rfl) (zAA (zF3 (K:=K) rfl (pv 0) rfl) (zAH))))))))))) (zRP rfl zG9 rfl zDu (fun _=>zAI (zAQ (zI5)))))
  (zAE (zBC (PW.pt (zHQ (zAT zJZ (zAX zAa (pv 3) (zAG) (fun _ _=>rfl)) (pv 2) (zAV _)) (zEw (zB2 (zAt zB6 zAM zBn hr (pv 0) (zAA (pv 4) (zAH))))))) (zAI (zAQ (zI5))) (zAW))
  (zAE (zBC (zCo (zB2 (pv 2))) (zAI (zAQ (pv 4))) (zAW))
  (zAI (zAQ (zN5 (zAT zHk (pv 4) (zAG) (zAV _)) (zHr zEk (pv 4)) (zI5)))))),?_⟩
 walk_at "st"
 have o1:=ok.fg1;have o2:=ok.fg2;have o3:=ok.pl1;have o4:=ok.pl2;have o5:=ok.b1;have o6:=ok.b2;have o9:=ok.z1;have o10:=ok.z2
 walk_at "rd"
 refine zSd [some (.ref a),some (.str (T t)),some (.bl bl),none,none] ?_
 walk_at "rd"
 refine ⟨t,sn,rfl,ok.sn,at',by omega,fun b' sd p1 H1 g1 e1=>?_,fun n0 n1 C H1 nC g1=>?_⟩
 ·have F1:=F0.same g1
  have hl:(bod sn b' t).length≤t.length:=by unfold bod;rw [List.length_drop,List.length_take];omega
  have ha:Asc (bod sn b' t):=(at'.take _).drop _
  walk_at "rd"
  refine ⟨bod sn b' t,b,pl,z,pt,m,rfl,o5,o6,o3,o4,o9,o10,by omega,ha,fun ib H2 g2=>?_,fun ni C H2 nC g2=>?_⟩
  ·have F2:=F1.same g2
   have e2:=g2.at e1
   have fin : ∀ o,zBx fg pl b sn z m pt bl t=o→Q (oV o) H2:=fun o h=>h ▸ q _ (g1.trans g2)
   walk_at "rd"
   rcases Decidable.em (b'=bl) with rfl | hb
   ·refine zWf ?_
    rw [decide_eq_true rfl]
    generalize hn:bval b pl.toNat z.toNat (bod sn b' t)=n
    walk_at "rd"
    ·rename_i hc
     refine fin none ?_
     unfold zBx
     rw [hn]
     exact if_neg fun h=>by have:=h.2.2.1;omega
    ·rename_i h1 h2
     have hb:b'=false:=by cases b' <;> simp_all
     subst hb
     refine fin (some n) ?_
     unfold zBx
     rw [hn,if_pos ⟨sd,ib,by omega,fun h=>by cases h⟩,if_neg Bool.false_ne_true]
    ·rename_i h1 h2 h3
     have hb:b'=true:=by cases b' <;> simp_all
     subst hb
     refine fin (some (-n)) ?_
     unfold zBx
     rw [hn,if_pos ⟨sd,ib,by omega,fun h=>h3⟩,if_pos rfl]
    ·rename_i h1 h2 h3
     have hb:b'=true:=by cases b' <;> simp_all
     subst hb
     refine fin none ?_
     unfold zBx
     rw [hn]
     exact if_neg fun h=>h3 (h.2.2.2 rfl)
   ·refine zWf ?_
    rw [decide_eq_false hb]
    walk_at "rd"
    refine fin none ?_
    unfold zBx
    refine if_neg fun h=>?_
    cases bl <;> cases b'
    ·exact hb rfl
    ·exact zHl ok.sn h.1 sd
    ·exact zHl ok.sn sd h.1
    ·exact hb rfl
  ·have:=Nm.eq nC n_NoBody
   subst this
   refine ⟨_,rfl,r_Hd xb ?_⟩
   walk_at "rd"
   have q':=q _ (g1.trans g2)
   rw [show zBx fg pl b sn z m pt bl t=none from ?_] at q'
   ·exact q'
   ·unfold zBx
    refine if_neg fun h=>ni ?_
    obtain rfl:bl=b':=by
     cases bl <;> cases b'
     ·rfl
     ·exact (zHl ok.sn h.1 sd).elim
     ·exact (zHl ok.sn sd h.1).elim
     ·rfl
    exact h.2.1
 ·have:=Nm.eq nC n_NoCore
  subst this
  refine ⟨_,rfl,r_Hd xc ?_⟩
  walk_at "rd"
  have q':=q _ g1
  rw [show zBx fg pl b sn z m pt bl t=none from ?_] at q'
  ·exact q'
  ·unfold zBx
   refine if_neg fun h=>?_
   cases bl
   ·exact n0 h.1
   ·exact n1 h.1
theorem zLA {K:W.Frag} {C a:Addr} {fg pl b:Int} {sn:Str} {z:Int} {m pt:Nat} {wy:Str} {wd:Int} {f:Nat} {x:Str} {st:Bool} {t:List Nat} {bl:Bool} {H:Hp} {Q:VK} {E:XK} (h1:zAZ K H a C wd f x st (zB0 fg pl b sn z m pt wy)) (h2:NumS fg pl b sn z m pt wy wd f x) (h3:Asc t) (h4:t.length≤400) (q : ∀ H',Same H H'→Q (oV (zBx fg pl b sn z m pt bl t)) H'):zB4 K C (.ref a::([.str (T t),.bl bl]++[])) H Q E:=⟨a,fg,pl,b,sn,z,m,pt,wy,wd,f,x,st,t,bl,rfl,h1,h2,h3,h4,q⟩
def RT (H:Hp) (S:Int) (v:V) (k:Int):Prop:=∃ p,v = .ref p∧H p=some (.tup [.int (low1 k S),.int (low2 k S)])
theorem RT.same {H H':Hp} {S:Int} {v:V} {k:Int} (g:Same H H') (h:RT H S v k):RT H' S v k:=let ⟨p,e,k⟩:=h;⟨p,e,g.at k⟩
theorem two_ways {fg pl b : Int} {sn : Str} {z : Int} {m pt : Nat} (hs : zFN sn) (cs : List (List Nat)) : (cs.filterMap (zBx fg pl b sn z m pt false)).length + (cs.filterMap (zBx fg pl b sn z m pt true)).length ≤ cs.length := by
  induction cs with
  | nil => exact Nat.le_refl _
  | cons c cs ih =>
    rw [List.filterMap_cons, List.filterMap_cons, List.length_cons]
    cases h0 : zBx fg pl b sn z m pt false c with
    | none =>
      cases h1 : zBx fg pl b sn z m pt true c with
      | none => dsimp only; omega
      | some k => dsimp only; rw [List.length_cons]; omega
    | some j =>
      cases h1 : zBx fg pl b sn z m pt true c with
      | none => dsimp only; rw [List.length_cons]; omega
      | some k =>
        exfalso
        unfold zBx at h0 h1
        split at h0
        · rename_i a0
          split at h1
          · rename_i a1
            exact zHl hs a0.1 a1.1
          · cases h1
        · cases h0
def stin (t l:List Nat) (w:Int) (f:Nat):List (List Nat):=if t.take l.length=l then zCM (t.drop l.length) (w - l.length) f "right" else []
def zCZ (K:W.Frag):Sp:=fun vs H Q _=>∃ (t l:List Nat) (w:Int) (f:Nat),vs=[.str (T t),.str (T l),.int w,.str (T [f])]∧t.length≤1000∧l.length≤400∧t.length - l.length≤400∧w≤40∧0≤w ∧ ∀ p H',Same H H'→H p=none→H' p=some (.lst (tsV (stin t l w f)))→Q (.ref p) H'
theorem zIn {K:W.Frag} {t l:List Nat} {w:Int} {f:Nat} {H:Hp} {Q:VK} {E:XK} (h1:t.length≤1000) (h2:l.length≤400) (h5:t.length - l.length≤400) (h3:w≤40) (h4:0≤w) (q : ∀ p H',Same H H'→H p=none→H' p=some (.lst (tsV (stin t l w f)))→Q (.ref p) H'):zCZ K ([.str (T t),.str (T l),.int w,.str (T [f])]++[]) H Q E:=⟨t,l,w,f,rfl,h1,h2,h5,h3,h4,q⟩
local macro_rules | `(tactic| walk_at "rdc")=>`(tactic| ((with_reducible refine' zIn ?h1 ?h2 ?h5 ?h3 ?h4 ?_);(case h1=>walk_at "tl");(case h2=>walk_at "tl");(case h5=>walk_at "tl");(case h3=>omega);(case h4=>omega);intro p' H' g' n' e'))
theorem zH5 {f:Addr} {fd:FuncData} (F:Fun K "stripped_inside" "stripped_inside" zBr f fd) (B:Blt mg) (zIm:Has P w K mg base "stripped" 3 ["text", "width", "fill", "side"] (zEb K)):FnOk P w K mg base CX0 4 f fd ["text", "lead", "width", "fill"] (zCZ K):=by
 refine F.ok zH8 (fun vs H Q E h=>?_) (fun cdv A outer s H vs Q E hr h=>?_)
 ·obtain ⟨t,l,w,f,rfl,h1,h2,h5,h3,h4,q⟩:=h
  rfl
 obtain ⟨t,l,w,f,rfl,h1,h2,h5,h3,h4,q⟩:=h
 refine ⟨_,zAE (zBC (zCo (zB2 (zIJ PySem.F.plainAttrs_str PySem.F.slot_str_startswith PySem.F.type_str_startswith zKL (pv 0) (zAA (pv 1) (zAH))))) (zAI (zAQ (zBE (zAH)))) (zAW))
  (zAI (zAQ (zAJ zIm hr rfl (zAA (zBR zEW (pv 0) (zBI (zAO zAu B.z_len rfl zBl (zAA (pv 1) (zAH)))) (zCa)) (zAA (zAS zCr (pv 2) (zAO zAu B.z_len rfl zBl (zAA (pv 1) (zAH)))) (zAA (pv 3) (zAA (zAe) (zAH)))))))),?_⟩
 walk_at "st"
 walk_at "rd"
 ·rename_i hc p' H' g' n' e'
  exact q _ _ g' n' (by rw [e'];unfold stin;rw [if_pos hc,Int.toNat_natCast])
 ·rename_i hc p' H' g' n' e'
  exact q _ _ g' n' (by rw [e'];unfold stin;rw [if_neg hc];rfl)
def cin (t:List Nat) (sn:Str) (bl:Bool) (wd:Int) (f:Nat) (x:Str) (st:Bool):List (List Nat):=if x = "inside" then ((stin t (stL sn bl) wd f).map fun r=>stL sn bl++r).filter (nwd wd st) else ucs t wd f x st
theorem zOD {t l:List Nat} {w:Int} {f:Nat} (h:w≤40):(stin t l w f).length≤41:=by
 unfold stin
 split
 ·exact zIN (by omega)
 ·exact Nat.zero_le _
theorem zKz {t:List Nat} {sn:Str} {bl:Bool} {wd:Int} {f:Nat} {x:Str} {st:Bool} (h:wd≤40):(cin t sn bl wd f x st).length≤41:=by
 unfold cin
 split
 ·exact Nat.le_trans (List.length_filter_le _ _) (by rw [List.length_map];exact zOD h)
 ·exact (zOA h).1
theorem zP3 {α β:Type} {g:α→Option β} : ∀ {l:List α},(∀ a ∈ l,g a=none)→l.filterMap g=[]
 | [],_=>rfl
 | a::l,h=>by rw [List.filterMap_cons_none (h a (List.mem_cons_self ..))];exact zP3 fun b hb=>h b (List.mem_cons_of_mem _ hb)
theorem zSg {α β:Type} {g:α→Option β} {a:α} {l:List α} (h : ∀ b ∈ l,g b=none):((a::l).filterMap g).length≤1:=by
 rw [List.filterMap_cons,zP3 h]
 cases g a <;> simp
theorem zMS {α β : Type} {g : α → Option β} {p : α → Bool} : ∀ l : List α, ((l.filter p).filterMap g).length ≤ (l.filterMap g).length
  | [] => Nat.le_refl _
  | a :: l => by
    have ih := zMS (g := g) (p := p) l
    rw [List.filter_cons]
    split
    · rw [List.filterMap_cons, List.filterMap_cons]
      cases g a <;> simp <;> omega
    · rw [List.filterMap_cons]
      cases g a <;> simp <;> omega
theorem zSB {fg pl b:Int} {sn:Str} {z:Int} {m pt:Nat} {u:List Nat} {k:Int} (hL:stL sn false=[]) (h:zBx fg pl b sn z m pt false u=some k):0≤fv (u.getD 0 0):=by
 unfold zBx at h
 split at h
 ·rename_i a
  obtain ⟨⟨ne,h0,_⟩,e⟩:=a.1
  rw [hL,List.nil_append] at e
  have:u.getD 0 0=(bod sn false u).getD 0 0:=by
   conv=>lhs;rw [← e]
   cases hb:bod sn false u with
   | nil=>exact absurd hb ne
   | cons c r=>rfl
  rw [this];exact h0
 ·cases h
theorem zRU {fg pl b : Int} {sn : Str} {z : Int} {m pt : Nat} {t : List Nat} {wd : Int} {f : Nat} (hL : stL sn false = []) (hw : wd ≤ 40) (hc : fv (t.getD 0 0) < 0) : ((zCM t wd f "right").filterMap (zBx fg pl b sn z m pt false)).length ≤ 1 := by
  rcases Int.lt_trichotomy wd t.length with h | h | h
  · rw [zHm h]; exact zSg (l := []) (fun _ h => nomatch h)
  · rw [zL0 hw h.symm, List.range_succ_eq_map, List.map_cons]
    refine zSg fun u hu => ?_
    rw [List.map_map] at hu
    obtain ⟨k, hk, rfl⟩ := List.mem_map.mp hu
    have hk := List.mem_range.mp hk
    cases hn : zBx fg pl b sn z m pt false (((fun k => t.drop (fa f t - k)) ∘ Nat.succ) k) with
    | none => rfl
    | some j =>
      exfalso
      have h1 := zSB hL hn
      have h2 : (((fun k => t.drop (fa f t - k)) ∘ Nat.succ) k).getD 0 0 = t.getD (fa f t - (k + 1)) 0 := by
        show (t.drop (fa f t - (k + 1))).getD 0 0 = _
        rw [List.getD_eq_getElem?_getD, List.getElem?_drop, List.getD_eq_getElem?_getD, Nat.add_zero]
      rw [h2, zUj (show fa f t - (k + 1) < fa f t by omega)] at h1
      rw [zUj (show 0 < fa f t by omega)] at hc
      omega
  · rw [zMM (.inr (.inl rfl)) hw (by omega)]; exact Nat.zero_le _
theorem zTW {fg pl b:Int} {sn:Str} {z:Int} {m pt:Nat} {t:List Nat} {wd:Int} {f:Nat} {x:Str} {st:Bool} (hs:zFN sn) (hw:wd≤40):((cin t sn false wd f x st).filterMap (zBx fg pl b sn z m pt false)).length+((cin t sn true wd f x st).filterMap (zBx fg pl b sn z m pt true)).length≤42:=by
 have l0:=Nat.le_trans (List.length_filterMap_le (zBx fg pl b sn z m pt false) (cin t sn false wd f x st)) (zKz (bl:=false) (f:=f) (x:=x) (st:=st) (t:=t) (sn:=sn) hw)
 have l1:=Nat.le_trans (List.length_filterMap_le (zBx fg pl b sn z m pt true) (cin t sn true wd f x st)) (zKz (bl:=true) (f:=f) (x:=x) (st:=st) (t:=t) (sn:=sn) hw)
 by_cases hx:x = "inside"
 ·have same:stL sn false=stL sn true→((cin t sn false wd f x st).filterMap (zBx fg pl b sn z m pt false)).length+((cin t sn true wd f x st).filterMap (zBx fg pl b sn z m pt true)).length≤42:=fun e=>by
   have e2:cin t sn true wd f x st=cin t sn false wd f x st:=by unfold cin;rw [e]
   rw [e2]
   have tw:=two_ways (fg:=fg) (pl:=pl) (b:=b) (z:=z) (m:=m) (pt:=pt) hs (cin t sn false wd f x st)
   have:=zKz (bl:=false) (f:=f) (x:=x) (st:=st) (t:=t) (sn:=sn) hw
   omega
  have zero : ∀ bl c,stL sn bl=[c]→t.take 1≠[c]→cin t sn bl wd f x st=[]:=fun bl c e h=>by
   unfold cin
   rw [if_pos hx,e]
   unfold stin
   rw [if_neg (show ¬ t.take [c].length=[c] from h)];rfl
  have apart : ∀ c d,stL sn false=[c]→stL sn true=[d]→c≠d→((cin t sn false wd f x st).filterMap (zBx fg pl b sn z m pt false)).length+((cin t sn true wd f x st).filterMap (zBx fg pl b sn z m pt true)).length≤42:=fun c d e0 e1 hn=>by
   by_cases h0:t.take 1=[c]
   ·rw [zero true d e1 (fun h=>hn (List.singleton_inj.mp (h0.symm.trans h))),List.filterMap_nil,List.length_nil];omega
   ·rw [zero false c e0 h0,List.filterMap_nil,List.length_nil];omega
  have ahead : ∀ c,stL sn false=[]→stL sn true=[c]→fv c < 0→((cin t sn false wd f x st).filterMap (zBx fg pl b sn z m pt false)).length+((cin t sn true wd f x st).filterMap (zBx fg pl b sn z m pt true)).length≤42:=fun c e0 e1 hc=>by
   by_cases h0:t.take 1=[c]
   ·have ht:t.getD 0 0=c:=by
     cases t with
     | nil=>simp at h0
     | cons d r=>simp at h0;rw [h0];rfl
    have hone:=zRU (fg:=fg) (pl:=pl) (b:=b) (z:=z) (m:=m) (pt:=pt) (t:=t) (wd:=wd) (f:=f) e0 hw (by rw [ht];exact hc)
    have e2:cin t sn false wd f x st=(zCM t wd f "right").filter (nwd wd st):=by
     unfold cin
     rw [if_pos hx,e0]
     unfold stin
     rw [if_pos (by simp)]
     simp
    rw [e2]
    have:=zMS (g:=zBx fg pl b sn z m pt false) (p:=nwd wd st) (zCM t wd f "right")
    omega
   ·rw [zero true c e1 h0,List.filterMap_nil,List.length_nil];omega
  rcases hs with rfl | rfl | rfl | rfl | rfl
  ·exact ahead 45 (by decide +kernel) (by decide +kernel) (by decide +kernel)
  ·exact apart 43 45 (by decide +kernel) (by decide +kernel) (by decide)
  ·exact apart 32 45 (by decide +kernel) (by decide +kernel) (by decide)
  ·exact ahead 40 (by decide +kernel) (by decide +kernel) (by decide +kernel)
  ·exact same (by decide +kernel)
 ·have e : ∀ bl,cin t sn bl wd f x st=ucs t wd f x st:=fun bl=>by unfold cin;rw [if_neg hx]
  rw [e,e]
  have tw:=two_ways (fg:=fg) (pl:=pl) (b:=b) (z:=z) (m:=m) (pt:=pt) hs (ucs t wd f x st)
  have:=(zOA (t:=t) (f:=f) (x:=x) (st:=st) hw).1
  omega
theorem zVc {t:List Nat} {sn:Str} {bl:Bool} {wd:Int} {f:Nat} {x:Str} {st:Bool} (hs:zFN sn) : ∀ c ∈ cin t sn bl wd f x st,c.length≤t.length+2∧(Asc t→Asc c):=fun c hc=>by
 unfold cin at hc
 split at hc
 ·have hc:=(List.mem_filter.mp hc).1
  obtain ⟨r,hr,rfl⟩:=List.mem_map.mp hc
  unfold stin at hr
  split at hr
  ·have b:=zGp r hr
   have sl:=zJq hs bl
   have sa:=zP8 hs bl
   rw [List.length_drop] at b
   exact ⟨by rw [List.length_append];omega,fun h=>sa.1.app (b.2 (h.drop _))⟩
  ·cases hr
 ·have b:=zGp c (List.mem_filter.mp hc).1
  exact ⟨by omega,b.2⟩
def zDT (K:W.Frag) (C:Addr):Sp:=fun vs H Q _=>∃ (a:Addr) (fg pl b:Int) (sn:Str) (z:Int) (m pt:Nat) (wy:Str) (wd:Int) (f:Nat) (x:Str) (st:Bool) (t:List Nat) (bl:Bool),vs=[.ref a,.str (T t),.bl bl]∧zAZ K H a C wd f x st (zB0 fg pl b sn z m pt wy)∧NumS fg pl b sn z m pt wy wd f x∧t.length≤300 ∧ ∀ l H',Same H H'→H' l=some (.lst (tsV (cin t sn bl wd f x st)))→Q (.ref l) H'
theorem zGa {f:Addr} {fd:FuncData} (F:FunD K "cores_in" "NumberForm.cores_in" zAs f fd) (B:Blt mg) {zAB:Addr} {zAD:Addr} {zAC:Addr} (zAM:Cls K zAB) (zEl:Has P w K mg base "ends_of" 1 ["style", "below"] (zDm K)) (zIq:Has P w K mg base "stripped_inside" 4 ["text", "lead", "width", "fill"] (zCZ K)) (zGu:HasM P w K mg base CX0 zAB "unfilled" 4 ["self", "text"] (zCQ K zAB zAD zAC)) (zBJ:HasM P w K mg base CX0 zAB "is_too_wide" 1 ["self", "core"] (zA3 K)):FnOk P w K mg base CX0 5 f fd ["self", "text", "below"] (zDT K zAB):=by
 refine F.ok zCV (fun vs H Q E h=>?_) (fun cdv A outer s H vs Q E hr h=>?_)
 ·obtain ⟨a,fg,pl,b,sn,z,m,pt,wy,wd,f,x,st,t,bl,rfl,F0,ok,ht,q⟩:=h
  rfl
 obtain ⟨a,fg,pl,b,sn,z,m,pt,wy,wd,f,x,st,t,bl,rfl,F0,ok,ht,q⟩:=h
 refine ⟨_,zAE (zBC (zAT zJZ (zAg (pv 0) rfl) (zAe) (zAV _)) (zAI (zAQ (zAt zGu zAM zBn hr (pv 0) (zAA (pv 1) (zAH))))) (zAW))
  (zAE (zAP (i:=3) zCV.nd rfl (Or.inr rfl) (zAX zAa (zAJ zEl hr rfl (zAA (zAg (pv 0) rfl) (zAA (pv 2) (zAH)))) (zAG) (fun _ _=>rfl)))
  (zAE (zKi (cl:=[("lead", s.heap.objs.size+1+1)]) (fr:=["lead"]) (is:=[3]) (i:=4) zCV.nd rfl (Or.inl rfl) rfl rfl rfl ⟨rfl,trivial⟩ rfl ⟨⟨rfl,rfl,Or.inl rfl⟩,trivial⟩ (by decide) (by decide +kernel) rfl (by decide +kernel) rfl (zGz (zAJ zIq hr rfl (zAA (pv 1) (zAA (pv 3) (zAA (zAg (pv 0) rfl) (zAA (zAg (pv 0) rfl) (zAH))))))) (fun _ _ _ _=>zG8) (fun _ _ _ _=>zAS zBe (pv 1) (pv 0)))
  (zAI (zAQ (zGG (cl:=[("self", s.heap.objs.size+1+0)]) (fr:=["self"]) (is:=[0]) rfl rfl ⟨rfl,trivial⟩ rfl ⟨⟨rfl,rfl,Or.inl rfl⟩,trivial⟩ (by decide) (by decide +kernel) rfl (by decide +kernel) rfl (zGz (pv 4)) (fun _ _ _ _=>zH7 (zCo (zB2 (zAt zBJ zAM zBn hr (pv 1) (zAA (pv 0) (zAH)))))) (fun _ _ _ _=>pv 0)))))),?_⟩
 walk_at "st"
 have sl:=zJq ok.sn bl
 have w0:=ok.wd1;have w1:=ok.wd2;have o7:=ok.sn
 have ec : ∀ b:Bool,(x = "inside")→cin t sn bl wd f x st=((stin t (stL sn bl) wd f).map fun r=>stL sn bl++r).filter (nwd wd st):=fun _ h=>by unfold cin;rw [if_pos h]
 walk_at "rd"
 ·rename_i hc p0 s0 l1 H1 g1 n1 e1
  have F1:=F0.same g1
  have sl1:=zOD (t:=t) (l:=stL sn bl) (f:=f) w1
  have sb1 : ∀ r ∈ stin t (stL sn bl) wd f,r.length≤t.length:=fun r hr=>by
   unfold stin at hr
   split at hr
   ·have:=(zGp r hr).1
    rw [List.length_drop] at this
    omega
   ·cases hr
  refine zCs (SqL.of e1) (small (by rw [zBK];omega)) (fun i ys H'=>H'=H1∧ys=tsV (((stin t (stL sn bl) wd f).take i).map fun r=>stL sn bl++r)) ⟨rfl,rfl⟩ (fun i ys H' hi h=>⟨h.1 ▸ SqL.of e1,by rw [h.2,zBK,List.length_map,List.length_take];omega⟩) ?_ ?_
  ·rintro i v ys H2 hv hi ⟨rfl,rfl⟩
   obtain ⟨c,hc2,rfl⟩:=zGe hv
   have cb:=sb1 c (List.mem_of_getElem? hc2)
   walk_at "rd"
   refine nxC hi ⟨rfl,?_⟩
   rw [List.take_succ,hc2,List.map_append,← zFG];rfl
  ·rintro ys H2 ⟨rfl,rfl⟩ p2 H3 g3 n3 e3
   rw [List.take_of_length_le (by rw [zBK];exact Nat.le_refl _)] at e3
   have F3:=F1.same g3
   have g03:=g1.trans g3
   generalize hcs:(stin t (stL sn bl) wd f).map (fun r=>stL sn bl++r)=cs at e3
   have lcs:cs.length≤41:=by rw [← hcs,List.length_map];exact sl1
   have bcs : ∀ c ∈ cs,c.length≤400:=fun c hc=>by
    rw [← hcs] at hc
    obtain ⟨r,hr,rfl⟩:=List.mem_map.mp hc
    have:=sb1 r hr
    rw [List.length_append];omega
   walk_at "rd"
   refine zCs (SqL.of e3) (small (by rw [zBK];omega)) (fun i ys H'=>Same H3 H'∧ys=tsV ((cs.take i).filter (nwd wd st))) ⟨Same.refl _,rfl⟩ (fun i ys H' hi h=>⟨SqL.of (h.1.at e3),by rw [h.2,zBK];exact Nat.le_trans (List.length_filter_le _ _) (by rw [List.length_take];omega)⟩) ?_ ?_
   ·rintro i v ys H4 hv hi ⟨g4,rfl⟩
    obtain ⟨c,hc2,rfl⟩:=zGe hv
    have F4:=F3.same g4
    have cb:=bcs c (List.mem_of_getElem? hc2)
    walk_at "rd"
    ·rename_i hk
     refine nxC hi ⟨g4,?_⟩
     rw [fil1 hc2,List.filter_cons_of_pos (show nwd wd st c=true from hk),← zFG];rfl
    ·rename_i hk
     refine nxC hi ⟨g4,?_⟩
     rw [fil1 hc2,List.filter_cons_of_neg (show ¬ nwd wd st c=true by unfold nwd;rw [hk];decide),List.filter_nil,List.append_nil]
   ·rintro ys H4 ⟨g4,rfl⟩ p4 H5 g5 n5 e5
    rw [List.take_of_length_le (by rw [zBK];exact Nat.le_refl _)] at e5
    exact q _ _ (g03.trans (g4.trans g5)) (by rw [ec true hc,hcs];exact e5)
 ·rename_i hc
  have sx:Side x:=ok.x.elim id fun z=>absurd z hc
  refine zIh (.num F0) sx (by omega) w0 w1 fun l1 H1 g1 e1=>?_
  exact q _ _ g1 (by unfold cin;rw [if_neg hc];exact e1)
def zCK (K:W.Frag) (C:Addr):Sp:=fun vs H Q _=>∃ (a:Addr) (fg pl b:Int) (sn:Str) (z:Int) (m pt:Nat) (wy:Str) (wd:Int) (f:Nat) (x:Str) (st:Bool) (t:List Nat) (bl:Bool),vs=[.ref a,.str (T t),.bl bl]∧zAZ K H a C wd f x st (zB0 fg pl b sn z m pt wy)∧NumS fg pl b sn z m pt wy wd f x∧Asc t∧t.length≤300 ∧ ∀ l H',Same H H'→H' l=some (.lst (((cin t sn bl wd f x st).filterMap (zBx fg pl b sn z m pt bl)).map V.int))→Q (.ref l) H'
theorem zIw {K:W.Frag} {C a:Addr} {fg pl b:Int} {sn:Str} {z:Int} {m pt:Nat} {wy:Str} {wd:Int} {f:Nat} {x:Str} {st:Bool} {t:List Nat} {bl:Bool} {H:Hp} {Q:VK} {E:XK} (h1:zAZ K H a C wd f x st (zB0 fg pl b sn z m pt wy)) (h2:NumS fg pl b sn z m pt wy wd f x) (h4:Asc t) (h5:t.length≤300) (q : ∀ l H',Same H H'→H' l=some (.lst (((cin t sn bl wd f x st).filterMap (zBx fg pl b sn z m pt bl)).map V.int))→Q (.ref l) H'):zCK K C (.ref a::([.str (T t),.bl bl]++[])) H Q E:=⟨a,fg,pl,b,sn,z,m,pt,wy,wd,f,x,st,t,bl,rfl,h1,h2,h4,h5,q⟩
theorem zXN (g : List Nat → Option Int) (cs : List (List Nat)) : ((cs.map fun c => oV (g c)).filter fun v => decide (v ≠ .non)) = (cs.filterMap g).map V.int := by
  induction cs with
  | nil => rfl
  | cons c cs ih =>
    rw [List.map_cons, List.filterMap_cons]
    cases h : g c with
    | none => rw [List.filter_cons_of_neg (by simp [oV]), ih]
    | some k => rw [List.filter_cons_of_pos (by simp [oV]), ih]; rfl
theorem zFU {f : Addr} {fd : FuncData} (F : FunD K "numbers_in" "NumberForm.numbers_in" zAl f fd) (B : Blt mg) {zAB : Addr} (zAM : Cls K zAB) (zFV : HasM P w K mg base CX0 zAB "number_with" 5 ["self", "core", "below"] (zB4 K zAB)) (zGn : HasM P w K mg base CX0 zAB "cores_in" 5 ["self", "text", "below"] (zDT K zAB)) : FnOk P w K mg base CX0 6 f fd ["self", "text", "below"] (zCK K zAB) := by
  refine F.ok zC6 (fun vs H Q E h => ?_) (fun cdv A outer s H vs Q E hr h => ?_)
  · obtain ⟨a, fg, pl, b, sn, z, m, pt, wy, wd, f, x, st, t, bl, rfl, F0, ok, at', ht, q⟩ := h
    rfl
  obtain ⟨a, fg, pl, b, sn, z, m, pt, wy, wd, f, x, st, t, bl, rfl, F0, ok, at', ht, q⟩ := h
  refine ⟨_, zAE (zKi (cl := [("self", s.heap.objs.size + 1 + 0), ("below", s.heap.objs.size + 1 + 1)]) (fr := ["below", "self"]) (is := [2, 0]) (i := 3) zC6.nd rfl (Or.inl rfl) rfl rfl rfl ⟨rfl, ⟨rfl, trivial⟩⟩ rfl ⟨⟨rfl, rfl, Or.inl rfl⟩, ⟨⟨rfl, rfl, Or.inl rfl⟩, trivial⟩⟩ (by decide) (by decide +kernel) rfl (by decide +kernel) rfl (zGz (zAt zGn zAM zBn hr (pv 0) (zAA (pv 1) (zAA (pv 2) (zAH))))) (fun _ _ _ _ => zG8) (fun _ _ _ _ => zAt zFV zAM zBn hr (pv 2) (zAA (pv 0) (zAA (pv 1) (zAH)))))
    (zAI (zAQ (zGG (cl := []) (fr := []) (is := []) rfl rfl trivial rfl trivial (by decide) (by decide +kernel) rfl (by decide +kernel) rfl (zGz (pv 3)) (fun _ _ _ _ => zH7 (zAT zOF (pv 0) (zI5) (zAV _))) (fun _ _ _ _ => pv 0)))), ?_⟩
  walk_at "st"
  have ul := zKz (t := t) (sn := sn) (bl := bl) (f := f) (x := x) (st := st) ok.wd2
  have ub := zVc (t := t) (bl := bl) (wd := wd) (f := f) (x := x) (st := st) ok.sn
  walk_at "rd"
  refine ⟨a, fg, pl, b, sn, z, m, pt, wy, wd, f, x, st, t, bl, rfl, F0, ok, ht, fun l1 H1 g1 e1 => ?_⟩
  have F1 := F0.same g1
  refine zCs (SqL.of e1) (small (by rw [zBK]; omega)) (fun i ys H' => Same H1 H' ∧ ys = ((cin t sn bl wd f x st).take i).map fun c => oV (zBx fg pl b sn z m pt bl c)) ⟨Same.refl _, rfl⟩ (fun i ys H' hi h => ⟨SqL.of (h.1.at e1), by rw [h.2, List.length_map, List.length_take]; omega⟩) ?_ ?_
  · rintro i v ys H2 hv hi ⟨g2, rfl⟩
    obtain ⟨c, hc, rfl⟩ := zGe hv
    have F2 := F1.same g2
    have cb := ub c (List.mem_of_getElem? hc)
    walk_at "rd"
    refine zLA F2 ok (cb.2 at') (by omega) fun H3 g3 => nxC hi ⟨g2.trans g3, ?_⟩
    rw [List.take_succ, hc, List.map_append]; rfl
  · rintro ys H2 ⟨g2, rfl⟩ p2 H3 g3 n3 e3
    rw [List.take_of_length_le (by rw [zBK]; exact Nat.le_refl _)] at e3
    have g03 := g1.trans (g2.trans g3)
    walk_at "rd"
    generalize hks : (cin t sn bl wd f x st).map (fun c => oV (zBx fg pl b sn z m pt bl c)) = ks at e3
    have lk : ks.length ≤ 41 := by rw [← hks, List.length_map]; exact ul
    refine zCs (SqL.of e3) (small (by omega)) (fun i ys H' => Same H3 H' ∧ ys = (ks.take i).filter fun v => decide (v ≠ .non)) ⟨Same.refl _, rfl⟩ (fun i ys H' hi h => ⟨SqL.of (h.1.at e3), by rw [h.2]; exact Nat.le_trans (List.length_filter_le _ _) (by rw [List.length_take]; omega)⟩) ?_ ?_
    · rintro i v ys H4 hv hi ⟨g4, rfl⟩
      have hm : v ∈ (cin t sn bl wd f x st).map fun c => oV (zBx fg pl b sn z m pt bl c) := hks ▸ List.mem_of_getElem? hv
      obtain ⟨c, _, hov⟩ := List.mem_map.mp hm
      cases ho : zBx fg pl b sn z m pt bl c with
      | none =>
        have hov : V.non = v := by rw [ho] at hov; exact hov
        subst hov
        walk_at "rd"
        refine ⟨rfl, ?_⟩
        rw [decide_eq_true rfl]
        walk_at "rd"
        refine nxC hi ⟨g4, ?_⟩
        rw [fil1 hv, List.filter_cons_of_neg (by simp), List.filter_nil, List.append_nil]
      | some k =>
        have hov : V.int k = v := by rw [ho] at hov; exact hov
        subst hov
        walk_at "rd"
        refine zUa ?_
        walk_at "rd"
        refine nxC hi ⟨g4, ?_⟩
        rw [fil1 hv, List.filter_cons_of_pos (by simp), List.filter_nil]
    · rintro ys H4 ⟨g4, rfl⟩ p4 H5 g5 n5 e5
      rw [List.take_length, ← hks, zXN] at e5
      exact q _ _ (g03.trans (g4.trans g5)) e5
noncomputable def nks (fg pl b:Int) (sn:Str) (z:Int) (m pt:Nat) (wd:Int) (f:Nat) (x:Str) (st:Bool) (t:List Nat):List Int:=(cin t sn false wd f x st).filterMap (zBx fg pl b sn z m pt false)++(cin t sn true wd f x st).filterMap (zBx fg pl b sn z m pt true)
def zCL (K:W.Frag) (C:Addr):Sp:=fun vs H Q _=>∃ (a:Addr) (fg pl b:Int) (sn:Str) (z:Int) (m pt:Nat) (wy:Str) (wd:Int) (f:Nat) (x:Str) (st:Bool) (t:List Nat),vs=[.ref a,.str (T t)]∧zAZ K H a C wd f x st (zB0 fg pl b sn z m pt wy)∧NumS fg pl b sn z m pt wy wd f x∧Asc t∧t.length≤300 ∧ ∀ l H' us ms,Same H H'→H' l=some (.lst us)→ms.Perm (nks fg pl b sn z m pt wd f x st t)→ms.Pairwise (· ≤ ·)→Al (RT H' (b ^ pl.toNat)) us ms→Q (.ref l) H'
theorem zFY {f:Addr} {fd:FuncData} (F:FunD K "values_for" "NumberForm.values_for" zAm f fd) (B:Blt mg) {zAB:Addr} (zAM:Cls K zAB) (zMb:Has P w K mg base "grid_value" 3 ["k", "base", "places"] (zEA K)) (zDL:HasM P w K mg base CX0 zAB "numbers_in" 6 ["self", "text", "below"] (zCK K zAB)):FnOk P w K mg base CX0 7 f fd ["self", "text"] (zCL K zAB):=by
 refine F.ok zC8 (fun vs H Q E h=>?_) (fun cdv A outer s H vs Q E hr h=>?_)
 ·obtain ⟨a,fg,pl,b,sn,z,m,pt,wy,wd,f,x,st,t,rfl,F0,ok,at',ht,q⟩:=h
  rfl
 obtain ⟨a,fg,pl,b,sn,z,m,pt,wy,wd,f,x,st,t,rfl,F0,ok,at',ht,q⟩:=h
 refine ⟨_,zAE (zAP (i:=2) zC8.nd rfl (Or.inl rfl) (zAS zKZ (zAt zDL zAM zBn hr (pv 0) (zAA (pv 1) (zAA (zHt) (zAH)))) (zAt zDL zAM zBn hr (pv 0) (zAA (pv 1) (zAA (zHt) (zAH))))))
  (zAI (zAQ (zGG (cl:=[("self", s.heap.objs.size+1+0)]) (fr:=["self"]) (is:=[0]) rfl rfl ⟨rfl,trivial⟩ rfl ⟨⟨rfl,rfl,Or.inl rfl⟩,trivial⟩ (by decide) (by decide +kernel) rfl (by decide +kernel) rfl (zGz (zAO zMx B.z_sorted rfl zLb (zAA (pv 2) (zAH)))) (fun _ _ _ _=>zG8) (fun _ _ _ _=>zAJ zMb hr rfl (zAA (pv 0) (zAA (zF3 (K:=K) rfl (pv 1) rfl) (zAA (zF3 (K:=K) rfl (pv 1) rfl) (zAH)))))))),?_⟩
 walk_at "st"
 have tw:=zTW (fg:=fg) (pl:=pl) (b:=b) (z:=z) (m:=m) (pt:=pt) (t:=t) (f:=f) (x:=x) (st:=st) ok.sn ok.wd2
 have o3:=ok.pl1;have o4:=ok.pl2;have o5:=ok.b1;have o6:=ok.b2
 walk_at "rd"
 refine zIw F0 ok at' ht fun l1 H1 g1 e1=>?_
 have F1:=F0.same g1
 walk_at "rd"
 refine zIw F1 ok at' ht fun l2 H2 g2 e2=>?_
 have F2:=F1.same g2
 have e12:=g2.at e1
 generalize hA:(cin t sn false wd f x st).filterMap (zBx fg pl b sn z m pt false)=A at *
 generalize hB:(cin t sn true wd f x st).filterMap (zBx fg pl b sn z m pt true)=Bs at *
 walk_at "rd"
 refine zQZ e12 e2 (small (by rw [List.length_map,List.length_map];omega)) fun l3 H3 g3 e3=>?_
 rw [← List.map_append] at e3
 have F3:=F2.same g3
 walk_at "rd"
 refine zRV (SqL.of e3) (by rw [List.length_append];omega) fun ms l4 H4 pm ps g4 e4=>?_
 have F4:=F3.same g4
 have lm:ms.length≤42:=by rw [pm.length_eq,List.length_append];omega
 refine zCs (SqL.of e4) (small (by rw [List.length_map];omega)) (fun i ys H'=>Same H4 H'∧Al (RT H' (b ^ pl.toNat)) ys (ms.take i)) ⟨Same.refl _,.nil⟩ (fun i ys H' hi h=>⟨SqL.of (h.1.at e4),by rw [h.2.len,List.length_take];omega⟩) ?_ ?_
 ·rintro i v ys H5 hv hi ⟨g5,al⟩
  obtain ⟨k,hk,rfl⟩ : ∃ k,ms[i]? = some k∧v = .int k:=by
   rw [List.getElem?_map] at hv
   cases hc:ms[i]? with
   | none=>rw [hc] at hv;cases hv
   | some c=>rw [hc] at hv;cases hv;exact ⟨c,rfl,rfl⟩
  have F5:=F4.same g5
  walk_at "rd"
  rename_i p6 H6 g6 e6
  refine nxC hi ⟨g5.trans g6,?_⟩
  rw [List.take_succ,hk]
  exact (al.imp fun _ _ h=>h.same g6).app (.one ⟨p6,rfl,e6⟩)
 ·rintro ys H5 ⟨g5,al⟩ p6 H6 g6 n6 e6
  rw [List.take_of_length_le (by rw [List.length_map];exact Nat.le_refl _)] at al
  refine q _ _ _ ms (by walk_at "sm") e6 ?_ ps (al.imp fun _ _ h=>h.same g6)
  unfold nks
  rw [hA,hB]
  exact pm
theorem zWE {X:Cx} {K:W.Frag} (e:X.K=K):OpR X (compareOp .In) (rIn K false):=e ▸ zQJ
def cvs (ns:List (List Nat)) (t:List Nat) (wd:Int) (f:Nat) (x:Str) (st:Bool):List (List Nat):=ns.filter fun n=>decide (n ∈ ucs t wd f x st)
def zCD (K:W.Frag) (C:Addr):Sp:=fun vs H Q _=>∃ (a L:Addr) (ns:List (List Nat)) (wd:Int) (f:Nat) (x:Str) (st:Bool) (t:List Nat),vs=[.ref a,.str (T t)]∧zAZ K H a C wd f x st (zJc L)∧H L=some (.lst (tsV ns))∧ns.length≤40∧Side x∧0≤wd∧wd≤40∧t.length≤400 ∧ ∀ l H',Same H H'→H' l=some (.lst (tsV (cvs ns t wd f x st)))→Q (.ref l) H'
theorem zFW {f:Addr} {fd:FuncData} (F:FunD K "values_for" "ChoiceForm.values_for" zAn f fd) (B:Blt mg) {zAC:Addr} {zAB:Addr} {zAD:Addr} (zAY:Cls K zAC) (zGi:HasM P w K mg base CX0 zAC "unfilled" 4 ["self", "text"] (zCQ K zAB zAD zAC)):FnOk P w K mg base CX0 5 f fd ["self", "text"] (zCD K zAC):=by
 refine F.ok zC9 (fun vs H Q E h=>?_) (fun cdv A outer s H vs Q E hr h=>?_)
 ·obtain ⟨a,L,ns,wd,f,x,st,t,rfl,F0,e0,nl,hs,w0,w1,ht,q⟩:=h
  rfl
 obtain ⟨a,L,ns,wd,f,x,st,t,rfl,F0,e0,nl,hs,w0,w1,ht,q⟩:=h
 refine ⟨_,zAE (zAP (i:=2) zC9.nd rfl (Or.inr rfl) (zAt zGi zAY zBn hr (pv 0) (zAA (pv 1) (zAH))))
  (zAI (zAQ (zGG (cl:=[("cores", s.heap.objs.size+1+0)]) (fr:=["cores"]) (is:=[2]) rfl rfl ⟨rfl,trivial⟩ rfl ⟨⟨rfl,rfl,Or.inl rfl⟩,trivial⟩ (by decide) (by decide +kernel) rfl (by decide +kernel) rfl (zGz (zAg (pv 0) rfl)) (fun _ _ _ _=>zH7 (zAT (zWE (K:=K) rfl) (pv 0) (pv 1) (by with_unfolding_all rfl))) (fun _ _ _ _=>pv 0)))),?_⟩
 walk_at "st"
 walk_at "rd"
 refine zIh (.cho F0) hs ht w0 w1 fun l1 H1 g1 e1=>?_
 have F1:=F0.same g1
 have e01:=g1.at e0
 walk_at "rd"
 refine zCs (SqL.of e01) (small (by rw [zBK];omega)) (fun i ys H'=>Same H1 H'∧ys=tsV ((ns.take i).filter fun n=>decide (n ∈ ucs t wd f x st))) ⟨Same.refl _,rfl⟩ (fun i ys H' hi h=>⟨SqL.of (h.1.at e01),by rw [h.2,zBK];exact Nat.le_trans (List.length_filter_le _ _) (by rw [List.length_take];omega)⟩) ?_ ?_
 ·rintro i v ys H2 hv hi ⟨g2,rfl⟩
  obtain ⟨c,hc,rfl⟩:=zGe hv
  have e12:=g2.at e1
  walk_at "rd"
  ·rename_i hk
   refine nxC hi ⟨g2,?_⟩
   rw [fil1 hc,List.filter_cons_of_pos (p:=fun n=>decide (n ∈ ucs t wd f x st)) (decide_eq_true hk),← zFG];rfl
  ·rename_i hk
   refine nxC hi ⟨g2,?_⟩
   rw [fil1 hc,List.filter_cons_of_neg (p:=fun n=>decide (n ∈ ucs t wd f x st)) (by simpa using hk),List.filter_nil,List.append_nil]
 ·rintro ys H2 ⟨g2,rfl⟩ p2 H3 g3 n3 e3
  rw [List.take_of_length_le (by rw [zBK];exact Nat.le_refl _)] at e3
  exact q _ _ (g1.trans (g2.trans g3)) e3
def wvs (sg:List Nat) (lo hi:Int) (t:List Nat) (wd:Int) (f:Nat) (x:Str) (st:Bool):List (List Nat):=(ucs t wd f x st).filter fun c=>decide (Isw sg lo hi c)
def zCT (K:W.Frag) (C:Addr):Sp:=fun vs H Q _=>∃ (a:Addr) (sg:List Nat) (lo hi:Int) (wd:Int) (f:Nat) (x:Str) (st:Bool) (t:List Nat),vs=[.ref a,.str (T t)]∧zAZ K H a C wd f x st (zDj sg lo hi)∧Side x∧0≤wd∧wd≤40∧t.length≤400 ∧ ∀ l H' ds,Same H H'→H' l=some (.lst (tsV ds))→ds.Perm (wvs sg lo hi t wd f x st)→Q (.ref l) H'
theorem zGW {f:Addr} {fd:FuncData} (F:FunD K "values_for" "WordForm.values_for" zAr f fd) (B:Blt mg) {zAD:Addr} {zAB:Addr} {zAC:Addr} (zAb:Cls K zAD) (zHa:HasM P w K mg base CX0 zAD "unfilled" 4 ["self", "text"] (zCQ K zAB zAD zAC)) (zDO:HasM P w K mg base CX0 zAD "is_word" 1 ["self", "thing"] (zCN K zAD)):FnOk P w K mg base CX0 5 f fd ["self", "text"] (zCT K zAD):=by
 refine F.ok zGc (fun vs H Q E h=>?_) (fun cdv A outer s H vs Q E hr h=>?_)
 ·obtain ⟨a,sg,lo,hi,wd,f,x,st,t,rfl,F0,hs,w0,w1,ht,q⟩:=h
  rfl
 obtain ⟨a,sg,lo,hi,wd,f,x,st,t,rfl,F0,hs,w0,w1,ht,q⟩:=h
 refine ⟨_,zAI (zAQ (zAO zMe B.z_sorted rfl zLb (zAA (zGG (cl:=[("self", s.heap.objs.size+1+0)]) (fr:=["self"]) (is:=[0]) rfl rfl ⟨rfl,trivial⟩ rfl ⟨⟨rfl,rfl,Or.inl rfl⟩,trivial⟩ (by decide) (by decide +kernel) rfl (by decide +kernel) rfl (zGz (zAt zHa zAb zBn hr (pv 0) (zAA (pv 1) (zAH)))) (fun _ _ _ _=>zH7 (zB2 (zAt zDO zAb zBn hr (pv 1) (zAA (pv 0) (zAH))))) (fun _ _ _ _=>pv 0)) (zAH)))),?_⟩
 walk_at "st"
 obtain ⟨ul,ub⟩:=zOA (t:=t) (f:=f) (x:=x) (st:=st) w1
 walk_at "rd"
 refine zIh (.word F0) hs ht w0 w1 fun l1 H1 g1 e1=>?_
 have F1:=F0.same g1
 refine zCs (SqL.of e1) (small (by rw [zBK];omega)) (fun i ys H'=>Same H1 H'∧ys=tsV (((ucs t wd f x st).take i).filter fun c=>decide (Isw sg lo hi c))) ⟨Same.refl _,rfl⟩ (fun i ys H' hi h=>⟨SqL.of (h.1.at e1),by rw [h.2,zBK];exact Nat.le_trans (List.length_filter_le _ _) (by rw [List.length_take];omega)⟩) ?_ ?_
 ·rintro i v ys H2 hv hi' ⟨g2,rfl⟩
  obtain ⟨c,hc,rfl⟩:=zGe hv
  have F2:=F1.same g2
  have cb:=(ub c (List.mem_of_getElem? hc)).1
  walk_at "rd"
  ·rename_i H3 g3 hk
   refine nxC hi' ⟨g2.trans g3,?_⟩
   rw [fil1 hc,List.filter_cons_of_pos (p:=fun c=>decide (Isw sg lo hi c)) (by simpa using hk),← zFG];rfl
  ·rename_i H3 g3 hk
   refine nxC hi' ⟨g2.trans g3,?_⟩
   rw [fil1 hc,List.filter_cons_of_neg (p:=fun c=>decide (Isw sg lo hi c)) (by simpa using hk),List.filter_nil,List.append_nil]
 ·rintro ys H2 ⟨g2,rfl⟩ p2 H3 g3 n3 e3
  rw [List.take_of_length_le (by rw [zBK];exact Nat.le_refl _)] at e3
  walk_at "rd"
  refine zP9 e3 (Nat.lt_of_le_of_lt (List.length_filter_le _ _) (by omega)) fun ds l4 H4 pm g4 e4=>?_
  exact q _ _ _ (g1.trans (g2.trans (g3.trans g4))) e4 pm
def zCb (K:W.Frag) (C:Addr):Sp:=fun vs H Q _=>∃ (a:Addr) (fg pl b:Int) (sn:Str) (z:Int) (m pt:Nat) (wy:Str) (wd:Int) (f:Nat) (x:Str) (st:Bool) (n:Int),vs=[.ref a,.int n]∧zAZ K H a C wd f x st (zB0 fg pl b sn z m pt wy) ∧ ∀ o H',Same H H'→zAZ K H' o C n f x st (zB0 fg pl b sn z m pt wy)→Q (.ref o) H'
theorem zGk {f:Addr} {fd:FuncData} (F:FunD K "widened" "NumberForm.widened" zAx f fd) (B:Blt mg) {zAB:Addr} (zBW:mg "NumberForm" = some (.ref zAB)) (zDV:HasI P w K mg base CX0 zAB 2 ["self", "figures", "places", "base", "sign", "size", "mark", "point", "way", "width", "fill", "side", "strict"] (zBv K zAB))(cl:Cls K zAB) (na:zBw K zAB (bns++nns)):FnOk P w K mg base CX0 4 f fd ["self", "width"] (zCb K zAB):=by
 refine F.ok zGl (fun vs H Q E h=>?_) (fun cdv A outer s H vs Q E hr h=>?_)
 ·obtain ⟨a,fg,pl,b,sn,z,m,pt,wy,wd,f,x,st,n,rfl,F0,q⟩:=h
  rfl
 obtain ⟨a,fg,pl,b,sn,z,m,pt,wy,wd,f,x,st,n,rfl,F0,q⟩:=h
 refine ⟨_,zAI (zAQ (zG5 zDV zBn hr rfl zBW (zAA (zAg (pv 0) rfl) (zAA (zAg (pv 0) rfl) (zAA (zAg (pv 0) rfl) (zAA (zAg (pv 0) rfl) (zAA (zAg (pv 0) rfl) (zAA (zAg (pv 0) rfl) (zAA (zAg (pv 0) rfl) (zAA (zAg (pv 0) rfl) (zAA (pv 1) (zAA (zAg (pv 0) rfl) (zAA (zAg (pv 0) rfl) (zAA (zAg (pv 0) rfl) (zAH) zAf) zAf) zAf) zBP) zAf) zAf) zAf) zAf) zAf) zAf) zAf) zAf))),?_⟩
 walk_at "st"
 walk_at "rd"
 intro o dx no nd ne
 refine ⟨o,dx,fg,pl,b,sn,z,m,pt,wy,n,f,x,st,rfl,zAU,?_⟩
 have F1:zAZ K (upd (upd (upd H dx (.own o)) o (.ins zAB dx [])) o (.ins zAB dx (bfs n f x st (zB0 fg pl b sn z m pt wy)))) o zAB n f x st (zB0 fg pl b sn z m pt wy):=⟨⟨dx,zAU⟩,cl,na⟩
 have g3:Same H (upd (upd (upd H dx (.own o)) o (.ins zAB dx [])) o (.ins zAB dx (bfs n f x st (zB0 fg pl b sn z m pt wy)))):=zAq (zAq (zAq (Same.refl _) nd) no) no
 generalize upd (upd (upd H dx (.own o)) o (.ins zAB dx [])) o (.ins zAB dx (bfs n f x st (zB0 fg pl b sn z m pt wy)))=H3 at F1 g3 ⊢
 exact ⟨rfl,q _ _ g3 F1⟩
def zC3 (K:W.Frag) (C:Addr):Sp:=fun vs H Q _=>∃ (a:Addr) (sg:List Nat) (lo hi:Int) (wd:Int) (f:Nat) (x:Str) (st:Bool) (n:Int),vs=[.ref a,.int n]∧zAZ K H a C wd f x st (zDj sg lo hi) ∧ ∀ o H',Same H H'→zAZ K H' o C n f x st (zDj sg lo hi)→Q (.ref o) H'
theorem zHj {f:Addr} {fd:FuncData} (F:FunD K "widened" "WordForm.widened" zA6 f fd) (B:Blt mg) {zAD:Addr} (zBz:mg "WordForm" = some (.ref zAD)) (zEm:HasI P w K mg base CX0 zAD 2 ["self", "signs", "least", "most", "width", "fill", "side", "strict"] (zB8 K zAD))(cl:Cls K zAD) (na:zBw K zAD (bns++wns)):FnOk P w K mg base CX0 4 f fd ["self", "width"] (zC3 K zAD):=by
 refine F.ok zHo (fun vs H Q E h=>?_) (fun cdv A outer s H vs Q E hr h=>?_)
 ·obtain ⟨a,sg,lo,hi,wd,f,x,st,n,rfl,F0,q⟩:=h
  rfl
 obtain ⟨a,sg,lo,hi,wd,f,x,st,n,rfl,F0,q⟩:=h
 refine ⟨_,zAI (zAQ (zG5 zEm zBn hr rfl zBz (zAA (zAg (pv 0) rfl) (zAA (zAg (pv 0) rfl) (zAA (zAg (pv 0) rfl) (zAA (pv 1) (zAA (zAg (pv 0) rfl) (zAA (zAg (pv 0) rfl) (zAA (zAg (pv 0) rfl) (zAH) zAf) zAf) zAf) zBP) zAf) zAf) zAf))),?_⟩
 walk_at "st"
 walk_at "rd"
 intro o dx no nd ne
 refine ⟨o,dx,sg,lo,hi,n,f,x,st,rfl,zAU,?_⟩
 have F1:zAZ K (upd (upd (upd H dx (.own o)) o (.ins zAD dx [])) o (.ins zAD dx (bfs n f x st (zDj sg lo hi)))) o zAD n f x st (zDj sg lo hi):=⟨⟨dx,zAU⟩,cl,na⟩
 have g3:Same H (upd (upd (upd H dx (.own o)) o (.ins zAD dx [])) o (.ins zAD dx (bfs n f x st (zDj sg lo hi)))):=zAq (zAq (zAq (Same.refl _) nd) no) no
 generalize upd (upd (upd H dx (.own o)) o (.ins zAD dx [])) o (.ins zAD dx (bfs n f x st (zDj sg lo hi)))=H3 at F1 g3 ⊢
 exact ⟨rfl,q _ _ g3 F1⟩
def zCe (K:W.Frag) (C:Addr):Sp:=fun vs H Q _=>∃ (a L:Addr) (ns:Ce) (wd:Int) (f:Nat) (x:Str) (st:Bool) (n:Int),vs=[.ref a,.int n]∧zAZ K H a C wd f x st (zJc L)∧H L=some (.lst (tsV ns)) ∧ ∀ o L' H',Same H H'→zAZ K H' o C n f x st (zJc L')→H' L'=some (.lst (tsV ns))→Q (.ref o) H'
theorem zGj {f:Addr} {fd:FuncData} (F:FunD K "widened" "ChoiceForm.widened" zAv f fd) (B:Blt mg) {zAC:Addr} (zBU:mg "ChoiceForm" = some (.ref zAC)) (zDW:HasI P w K mg base CX0 zAC 2 ["self", "names", "width", "fill", "side", "strict"] (zBu K zAC))(cl:Cls K zAC) (na:zBw K zAC (bns++cns)):FnOk P w K mg base CX0 4 f fd ["self", "width"] (zCe K zAC):=by
 refine F.ok zGg (fun vs H Q E h=>?_) (fun cdv A outer s H vs Q E hr h=>?_)
 ·obtain ⟨a,L,ns,wd,f,x,st,n,rfl,F0,e0,q⟩:=h
  rfl
 obtain ⟨a,L,ns,wd,f,x,st,n,rfl,F0,e0,q⟩:=h
 refine ⟨_,zAI (zAQ (zG5 zDW zBn hr rfl zBU (zAA (zAg (pv 0) rfl) (zAA (pv 1) (zAA (zAg (pv 0) rfl) (zAA (zAg (pv 0) rfl) (zAA (zAg (pv 0) rfl) (zAH)))))))),?_⟩
 walk_at "st"
 walk_at "rd"
 intro o dx no nd ne
 have no':upd H dx (.own o) o=none:=by rw [zBV (Ne.symm ne)];exact no
 have g1:Same H (upd (upd H dx (.own o)) o (.ins zAC dx [])):=zAq (zAq (Same.refl _) nd) no
 refine ⟨o,dx,L,ns,n,f,x,st,rfl,zAU,g1.at e0,fun L2 H2 sb n2 e2 eo=>⟨rfl,q _ L2 _ (fun b u e=>?_) ⟨⟨dx,eo⟩,cl,na⟩ e2⟩⟩
 exact sb b u (fun z=>by rw [z,no] at e;cases e) (g1.at e)
def RL (H:Hp) (P:Addr→Prop) (v:V) (cs:Ce):Prop:=∃ q,v = .ref q∧P q∧H q=some (.lst (tsV cs))
def RP (H:Hp) (P:Addr→Prop) (v:V) (x:Ce × Ce):Prop:=∃ t a b,v = .ref t∧(P t∧P a∧P b)∧H t=some (.tup [.ref a,.ref b])∧H a=some (.lst (tsV x.1))∧H b=some (.lst (tsV x.2))
theorem RL.same {H H':Hp} {P:Addr→Prop} {v:V} {cs:Ce} (g:Same H H') (h:RL H P v cs):RL H' P v cs:=let ⟨q,e,p,k⟩:=h;⟨q,e,p,g.at k⟩
theorem RP.same {H H':Hp} {P:Addr→Prop} {v:V} {x:Ce × Ce} (g:Same H H') (h:RP H P v x):RP H' P v x:=let ⟨t,a,b,e,p,k,k1,k2⟩:=h;⟨t,a,b,e,p,g.at k,g.at k1,g.at k2⟩
theorem RL.put {H:Hp} {P:Addr→Prop} {l:Addr} {o:HO} {v:V} {cs:Ce} (n : ∀ a,P a→a≠l) (h:RL H P v cs):RL (upd H l o) P v cs:=let ⟨q,e,p,k⟩:=h;⟨q,e,p,by rw [zBV (n _ p)];exact k⟩
theorem RP.put {H:Hp} {P:Addr→Prop} {l:Addr} {o:HO} {v:V} {x:Ce × Ce} (n : ∀ a,P a→a≠l) (h:RP H P v x):RP (upd H l o) P v x:=let ⟨t,a,b,e,p,k,k1,k2⟩:=h;⟨t,a,b,e,p,by rw [zBV (n _ p.1)];exact k,by rw [zBV (n _ p.2.1)];exact k1,by rw [zBV (n _ p.2.2)];exact k2⟩
theorem zRl (l:Ce) (n:Nat):(tsV l).take n=tsV (l.take n):=by unfold tsV;rw [List.map_take]
theorem zRZ (l:Ce) (n:Nat):(tsV l).drop n=tsV (l.drop n):=by unfold tsV;rw [List.map_drop]
section
variable {K : W.Frag} {H : Hp} {Q : VK}
theorem zTc (q : ∀ p H',Same H H'→H p=none→H' p=some (.lst (tsV []))→Q (.ref p) H'):kLst Q [] H:=zLM (small (by simp only [List.length_cons,List.length_nil];decide)) fun p H1 g n e=>q p H1 g n e
theorem zWW {l b:Addr} {xs zs:Ce} (h1:H l=some (.lst (tsV xs))) (h2:H b=some (.lst (tsV zs))) (hz:xs.length+zs.length≤900) (q : ∀ p H',Same H H'→H p=none→H' p=some (.lst (tsV (xs++zs)))→Q (.ref p) H'):rCat (.ref l) (.ref b) H Q:=
 ⟨l,b,_,_,rfl,rfl,h1,h2,Nat.le_of_lt (zCF (by rw [zBK,zBK];omega)),fun p hp=>q p _ (zAq (Same.refl _) hp) hp (by rw [zAU];unfold tsV;rw [List.map_append])⟩
theorem zWH {a:Addr} {xs ys:Ce} {lo hi:Option Int} (h:H a=some (.lst (tsV xs))) (e:(xs.drop (HT.sIx xs.length 0 lo)).take (HT.sIx xs.length xs.length hi - HT.sIx xs.length 0 lo)=ys) (q : ∀ p H',Same H H'→H p=none→H' p=some (.lst (tsV ys))→Q (.ref p) H'):rSlL K (.ref a) lo hi H Q:=
 ⟨a,_,rfl,SqL.of h,fun p hp=>q p _ (zAq (Same.refl _) hp) hp (by rw [zAU,← e];unfold cutV;rw [zBK,zRZ,zRl])⟩
theorem zNn {n d:Nat} {v:Int} (h:0≤v):HT.sIx n d (some v)=min v.toNat n:=by
 show (if v < 0 then (v+(n:Int)).toNat else min v.toNat n)=_
 rw [if_neg (by omega)]
theorem zUw {a:Addr} {xs:Ce} {j:Int} (h:H a=some (.lst (tsV xs))) (h1:0≤j) (q : ∀ p H',Same H H'→H p=none→H' p=some (.lst (tsV (xs.take j.toNat)))→Q (.ref p) H'):rSlL K (.ref a) none (some j) H Q:=by
 refine zWH h ?_ q
 rw [HT.sIx_none,zNn h1,List.drop_zero,Nat.sub_zero]
 rcases Nat.le_total j.toNat xs.length with y | y
 ·rw [Nat.min_eq_left y]
 ·rw [Nat.min_eq_right y,List.take_length,List.take_of_length_le y]
theorem zSD {a:Addr} {xs:Ce} {i:Int} (h:H a=some (.lst (tsV xs))) (h0:0≤i) (q : ∀ p H',Same H H'→H p=none→H' p=some (.lst (tsV (xs.drop i.toNat)))→Q (.ref p) H'):rSlL K (.ref a) (some i) none H Q:=by
 refine zWH h ?_ q
 rw [HT.sIx_none,zNn h0]
 rcases Nat.le_total i.toNat xs.length with z | z
 ·rw [Nat.min_eq_left z,List.take_of_length_le (by rw [List.length_drop];exact Nat.le_refl _)]
 ·rw [Nat.min_eq_right z,List.drop_of_length_le (Nat.le_refl _),List.drop_of_length_le z,List.take_nil]
theorem zWl {p:Addr} {ys:Ce} (h:H p=some (.lst (tsV ys))) (q:Q (.int ys.length) H):zR4 K [.ref p] H Q:=zSn (SqL.of h) (by rw [zBK];exact q)
end
local macro_rules | `(tactic| walk_at "rd1")=>`(tactic| first | ((with_reducible refine' zWl ?h ?_);(case h=>walk_at "hp")) | fail "none")
local macro_rules | `(tactic| walk_at "rd1")=>`(tactic| first | ((with_reducible refine' zLM ?hz ?_);(case hz=>exact small (by simp only [List.length_cons,List.length_nil];decide));intro p' H' g' n' e') | fail "none")
local macro_rules | `(tactic| walk_at "rd1")=>`(tactic| first | ((with_reducible refine zTc ?_);intro p' H' g' n' e') | fail "none")
local macro_rules | `(tactic| walk_at "rd1")=>`(tactic| first | ((with_reducible refine' zWW ?h1 ?h2 ?hz ?_);(case h1=>walk_at "hp");(case h2=>walk_at "hp");(case hz=>walk_at "tl");intro p' H' g' n' e') | fail "none")
local macro_rules | `(tactic| walk_at "rd1")=>`(tactic| first | ((with_reducible refine' r_sl2 ?h ?h0 ?h1 ?_);(case h=>walk_at "hp");(case h0=>omega);(case h1=>omega);intro p' H' g' n' e') | ((with_reducible refine' zUw ?h ?h1 ?_);(case h=>walk_at "hp");(case h1=>omega);intro p' H' g' n' e') | ((with_reducible refine' zSD ?h ?h0 ?_);(case h=>walk_at "hp");(case h0=>omega);intro p' H' g' n' e'))
local macro_rules | `(tactic| walk_at "tl")=>`(tactic| (simp only [List.length_map,List.length_append,List.length_replicate,List.length_cons,List.length_nil,List.length_take,List.length_drop];omega))
local macro_rules | `(tactic| walk_at "fm")=>`(tactic| first | assumption | (refine' zAZ.same ?s (by assumption);(case s=>walk_at "sm")))
inductive Fd where
 | num (fg pl b:Int) (sn:Str) (z:Int) (m pt:Nat) (wy:Str)
 | word (sg:List Nat) (lo hi:Int)
 | cho (ns:Ce)
structure WdS (sg:List Nat) (lo hi wd:Int) (f:Nat) (x:Str):Prop where
 s1:1≤sg.length
 s2:sg.length≤200
 lo1:0≤lo
 lo2:lo≤hi
 hi2:hi≤24
 wd1:0≤wd
 wd2:wd≤40
 x:Side x
 sa:Asc sg
 f:f < 127
structure ChS (ns:Ce) (wd:Int) (f:Nat) (x:Str):Prop where
 n1:1≤ns.length
 n2:ns.length≤12
 len : ∀ t ∈ ns,t.length≤13
 wd1:0≤wd
 wd2:wd≤40
 x:Side x
 ta : ∀ t ∈ ns,Asc t
 f:f < 127
inductive FdAt (K:W.Frag) (H:Hp) (o cN cW cC:Addr) (wd:Int) (f:Nat) (x:Str) (st:Bool):Fd→Prop
 | num {fg pl b:Int} {sn:Str} {z:Int} {m pt:Nat} {wy:Str} (F:zAZ K H o cN wd f x st (zB0 fg pl b sn z m pt wy)) (ok:NumS fg pl b sn z m pt wy wd f x):FdAt K H o cN cW cC wd f x st (.num fg pl b sn z m pt wy)
 | word {sg:List Nat} {lo hi:Int} (F:zAZ K H o cW wd f x st (zDj sg lo hi)) (ok:WdS sg lo hi wd f x):FdAt K H o cN cW cC wd f x st (.word sg lo hi)
 | cho {L:Addr} {ns:Ce} (F:zAZ K H o cC wd f x st (zJc L)) (e:H L=some (.lst (tsV ns))) (ok:ChS ns wd f x):FdAt K H o cN cW cC wd f x st (.cho ns)
theorem FdAt.same {K:W.Frag} {H H':Hp} {o cN cW cC:Addr} {wd:Int} {f:Nat} {x:Str} {st:Bool} {d:Fd} (g:Same H H') (h:FdAt K H o cN cW cC wd f x st d):FdAt K H' o cN cW cC wd f x st d:=by
 cases h with
 | num F ok=>exact .num (F.same g) ok
 | word F ok=>exact .word (F.same g) ok
 | cho F e ok=>exact .cho (F.same g) (g.at e) ok
theorem FdAt.bd {K:W.Frag} {H:Hp} {o cN cW cC:Addr} {wd:Int} {f:Nat} {x:Str} {st:Bool} {d:Fd} (h:FdAt K H o cN cW cC wd f x st d) : ∃ C more,zAZ K H o C wd f x st more∧zK5 x∧0≤wd∧wd≤40:=by
 cases h with
 | num F ok=>exact ⟨_,_,F,ok.x,ok.wd1,ok.wd2⟩
 | word F ok=>exact ⟨_,_,F,.inl ok.x,ok.wd1,ok.wd2⟩
 | cho F e ok=>exact ⟨_,_,F,.inl ok.x,ok.wd1,ok.wd2⟩
def zDD (K:W.Frag):Sp:=fun vs H Q _=>vs=[] ∧ ∀ l:List Nat,l.length=94→Asc l→Q (.str (T l)) H
theorem zT5 {K:W.Frag} {H:Hp} {Q:VK} {E:XK} (q : ∀ l:List Nat,l.length=94→Asc l→Q (.str (T l)) H):zDD K ([]++[]) H Q E:=⟨rfl,q⟩
local macro_rules | `(tactic| walk_at "rdc")=>`(tactic| ((with_reducible refine zT5 ?_);intro l' hl' al'))
def zDb (K:W.Frag):Sp:=fun vs H Q _=>∃ n t:Int,vs=[.int n,.int t]∧0≤t ∧ ∀ c:Nat,c < 127→Q (.str (T [c])) H
theorem zVa {K:W.Frag} {n t:Int} {H:Hp} {Q:VK} {E:XK} (h1:0≤t) (q : ∀ c:Nat,c < 127→Q (.str (T [c])) H):zDb K ([.int n,.int t]++[]) H Q E:=⟨n,t,rfl,h1,q⟩
local macro_rules | `(tactic| walk_at "rdc")=>`(tactic| ((with_reducible refine' zVa ?h1 ?_);(case h1=>omega);intro c' hc'))
inductive SpAt (H:Hp) (p:Addr) (wd:Int) (f:Nat) (x:Str) (st:Bool):Fd→Prop
 | num {fg pl b:Int} {sn:Str} {z:Int} {m pt:Nat} {wy:Str} (e:H p=some (.tup [.str "number", .int fg,.int pl,.int b,.str sn,.int z,.str (T [m]),.str (T [pt]),.str wy,.int wd,.str (T [f]),.str x,.bl st])) (ok:NumS fg pl b sn z m pt wy wd f x):SpAt H p wd f x st (.num fg pl b sn z m pt wy)
 | word {sg:List Nat} {lo hi:Int} (e:H p=some (.tup [.str "word", .str (T sg),.int lo,.int hi,.int wd,.str (T [f]),.str x,.bl st])) (ok:WdS sg lo hi wd f x):SpAt H p wd f x st (.word sg lo hi)
 | cho {L:Addr} {ns:Ce} (e:H p=some (.tup [.str "choice", .ref L,.int wd,.str (T [f]),.str x,.bl st])) (eL:H L=some (.lst (tsV ns))) (ok:ChS ns wd f x):SpAt H p wd f x st (.cho ns)
theorem SpAt.same {H H':Hp} {p:Addr} {wd:Int} {f:Nat} {x:Str} {st:Bool} {d:Fd} (g:Same H H') (h:SpAt H p wd f x st d):SpAt H' p wd f x st d:=by
 cases h with
 | num e ok=>exact .num (g.at e) ok
 | word e ok=>exact .word (g.at e) ok
 | cho e eL ok=>exact .cho (g.at e) (g.at eL) ok
theorem zMQ {f:Addr} {fd:FuncData} (F:Fun K "_law_signs" "_law_signs" zDk f fd) (B:Blt mg):FnOk P w K mg base CX0 1 f fd [] (zDD K):=by
 refine F.ok zLf (fun vs H Q E h=>?_) (fun cdv A outer s H vs Q E hr h=>?_)
 ·obtain ⟨rfl,q⟩:=h
  rfl
 obtain ⟨rfl,q⟩:=h
 refine ⟨_,zAI (zAQ (zAe)),?_⟩
 walk_at "st"
 walk_at "rd"
 have q':=q (Lt " !\"#$&'()*+,-./0123456789:;<=>?@ABCDEFGHIJKLMNOPQRSTUVWXYZ[\\]^_`abcdefghijklmnopqrstuvwxyz{|}~") (by decide +kernel) (by unfold Asc;decide +kernel)
 rw [T_Lt] at q'
 exact q'
theorem zMr {f:Addr} {fd:FuncData} (F:Fun K "_law_sign" "_law_sign" zEI f fd) (B:Blt mg) (zAN:Has P w K mg base "_law_pick" 1 ["_law_cell", "_law_salt", "_law_many"] (zBa K)) (zEi:Has P w K mg base "_law_signs" 1 [] (zDD K)):FnOk P w K mg base CX0 2 f fd ["_law_cell", "_law_salt"] (zDb K):=by
 refine F.ok zJW (fun vs H Q E h=>?_) (fun cdv A outer s H vs Q E hr h=>?_)
 ·obtain ⟨n,t,rfl,h0,q⟩:=h
  rfl
 obtain ⟨n,t,rfl,h0,q⟩:=h
 refine ⟨_,zAE (zAP (i:=2) zJW.nd rfl (Or.inl rfl) (zAe))
  (zAE (zBC (zAT zHk (zAJ zAN hr rfl (zAA (pv 0) (zAA (pv 1) (zAA (zAG) (zAH))))) (zAG) (zAV _)) (zAI (zAQ (zAX zDS (pv 2) (zAJ zAN hr rfl (zAA (pv 0) (zAA (zAS zBO (pv 1) (zAG)) (zAA (zAO zAu B.z_len rfl zBl (zAA (pv 2) (zAH))) (zAH))))) (fun _ _=>rfl)))) (zAW))
  (zAI (zAQ (zAX zDS (zJj zEi hr rfl) (zAJ zAN hr rfl (zAA (pv 0) (zAA (zAS zBO (pv 1) (zAG)) (zAA (zAG) (zAH))))) (fun _ _=>rfl))))),?_⟩
 walk_at "st"
 have l13:(Lt " 0-+(1*)_,.9f").length=13:=by decide +kernel
 have a1 : ∀ c ∈ Lt " 0-+(1*)_,.9f", c < 127:=by decide +kernel
 walk_at "rd"
 ·rename_i c' hc';exact q _ (a1 _ hc')
 ·rename_i l' hl' al' v' h0' h1'
  refine q _ (al' _ ?_)
  rw [List.getD_eq_getElem?_getD,List.getElem?_eq_getElem (by omega)]
  exact List.getElem_mem _
theorem zHe {K:W.Frag} {H:Hp} {Q:VK} {p:Addr} {xs:List V} {i:Int} (P:Int→Prop) (e:H p=some (.lst xs)) (h0:0≤i) (h1:i < xs.length) (hx : ∀ v ∈ xs,∃ k,v = .int k∧P k) (q : ∀ k,P k→Q (.int k) H):rIxL K (.ref p) (.int i) H Q:=
 zLK (SqL.of e) h0 h1 fun x hi=>by
  obtain ⟨k,rfl,hk⟩:=hx x (List.mem_of_getElem? hi)
  exact q k hk
theorem zHc {K:W.Frag} {H:Hp} {Q:VK} {p:Addr} {xs:List V} {i:Int} (P:Str→Prop) (e:H p=some (.lst xs)) (h0:0≤i) (h1:i < xs.length) (hx : ∀ v ∈ xs,∃ k,v = .str k∧P k) (q : ∀ k,P k→Q (.str k) H):rIxL K (.ref p) (.int i) H Q:=
 zLK (SqL.of e) h0 h1 fun x hi=>by
  obtain ⟨k,rfl,hk⟩:=hx x (List.mem_of_getElem? hi)
  exact q k hk
theorem zUc : ∀ v ∈ [V.str "minus", V.str "plus", V.str "blank", V.str "brackets", V.str "behind"],∃ k,v = .str k∧zFN k:=by
 simp only [List.mem_cons,List.not_mem_nil,or_false]
 rintro v (rfl | rfl | rfl | rfl | rfl)
 ·exact ⟨_,rfl,.inl rfl⟩
 ·exact ⟨_,rfl,.inr (.inl rfl)⟩
 ·exact ⟨_,rfl,.inr (.inr (.inl rfl))⟩
 ·exact ⟨_,rfl,.inr (.inr (.inr (.inl rfl)))⟩
 ·exact ⟨_,rfl,.inr (.inr (.inr (.inr rfl)))⟩
theorem zT2 : ∀ v ∈ [V.str "down", V.str "up", V.str "cut", V.str "near", V.str "even"],∃ k,v = .str k∧Way k:=by
 simp only [List.mem_cons,List.not_mem_nil,or_false]
 rintro v (rfl | rfl | rfl | rfl | rfl)
 ·exact ⟨_,rfl,.inl rfl⟩
 ·exact ⟨_,rfl,.inr (.inl rfl)⟩
 ·exact ⟨_,rfl,.inr (.inr (.inl rfl))⟩
 ·exact ⟨_,rfl,.inr (.inr (.inr (.inl rfl)))⟩
 ·exact ⟨_,rfl,.inr (.inr (.inr (.inr rfl)))⟩
theorem zQ9 : ∀ v ∈ [V.str "right", V.str "left", V.str "middle", V.str "inside"],∃ k,v = .str k∧zK5 k:=by
 simp only [List.mem_cons,List.not_mem_nil,or_false]
 rintro v (rfl | rfl | rfl | rfl)
 ·exact ⟨_,rfl,.inl (.inr (.inl rfl))⟩
 ·exact ⟨_,rfl,.inl (.inl rfl)⟩
 ·exact ⟨_,rfl,.inl (.inr (.inr rfl))⟩
 ·exact ⟨_,rfl,.inr rfl⟩
theorem zNs : ∀ v ∈ [V.str "left", V.str "right", V.str "middle"],∃ k,v = .str k∧Side k:=by
 simp only [List.mem_cons,List.not_mem_nil,or_false]
 rintro v (rfl | rfl | rfl)
 ·exact ⟨_,rfl,.inl rfl⟩
 ·exact ⟨_,rfl,.inr (.inl rfl)⟩
 ·exact ⟨_,rfl,.inr (.inr rfl)⟩
def zCW (K:W.Frag):Sp:=fun vs H Q _=>∃ (c o s:Int),vs=[.int c,.int o,.int s]∧s=0 ∧ ∀ p H' wd f x st d,Same H H'→SpAt H' p wd f x st d→Q (.ref p) H'
theorem zKq {K:W.Frag} {c o s:Int} {H:Hp} {Q:VK} {E:XK} (h:s=0) (q : ∀ p H' wd f x st d,Same H H'→SpAt H' p wd f x st d→Q (.ref p) H'):zCW K ([.int c,.int o,.int s]++[]) H Q E:=⟨c,o,s,rfl,h,q⟩
theorem zIB {f:Addr} {fd:FuncData} (F:Fun K "_law_number_spec" "_law_number_spec" zBo f fd) (B:Blt mg) (zAN:Has P w K mg base "_law_pick" 1 ["_law_cell", "_law_salt", "_law_many"] (zBa K)) (zDp:Has P w K mg base "_law_sign" 2 ["_law_cell", "_law_salt"] (zDb K)):FnOk P w K mg base CX0 3 f fd ["_law_cell", "_law_other", "_law_small"] (zCW K):=by
 refine F.ok zAo (fun vs H Q E h=>?_) (fun cdv A outer s H vs Q E hr h=>?_)
 ·obtain ⟨c,o,s0,rfl,hs,q⟩:=h
  rfl
 obtain ⟨c,o,s0,rfl,hs,q⟩:=h
 refine ⟨_,zAE (zAP (i:=3) zAo.nd rfl (Or.inl rfl) (zAS zBO (zAG) (zAJ zAN hr rfl (zAA (pv 0) (zAA (zAG) (zAA (zAX zBF (zBE (zAA (zAG) (zAA (zAG) (zAH)))) (pv 2) (fun _ _=>rfl)) (zAH)))))))
  (zAE (zAP (i:=4) zAo.nd rfl (Or.inl rfl) (zAJ zAN hr rfl (zAA (pv 0) (zAA (zAG) (zAA (zAX zBF (zBE (zAA (zAG) (zAA (zAG) (zAH)))) (pv 2) (fun _ _=>rfl)) (zAH))))))
  (zAE (zAP (i:=5) zAo.nd rfl (Or.inl rfl) (zAX zBF (zBE (zAA (zAG) (zAA (zAG) (zAA (zAX zBF (zBE (zAA (zAG) (zAA (zAG) (zAH)))) (pv 2) (fun _ _=>rfl)) (zAA (zAX zBF (zBE (zAA (zAS zBO (zAG) (zAJ zAN hr rfl (zAA (pv 0) (zAA (zAG) (zAA (zAG) (zAH)))))) (zAA (zAG) (zAH)))) (pv 2) (fun _ _=>rfl)) (zAH)))))) (zAJ zAN hr rfl (zAA (pv 0) (zAA (zAG) (zAA (zAG) (zAH))))) (fun _ _=>rfl)))
  (zAE (zAP (i:=6) zAo.nd rfl (Or.inl rfl) (zAX zBF (zBE (zAA (zAe) (zAA (zAe) (zAA (zAe) (zAA (zAe) (zAA (zAe) (zAH))))))) (zAJ zAN hr rfl (zAA (pv 0) (zAA (zAG) (zAA (zAG) (zAH))))) (fun _ _=>rfl)))
  (zAE (zAP (i:=7) zAo.nd rfl (Or.inl rfl) (zAX zBF (zBE (zAA (zAG) (zAA (zAG) (zAA (zAS zBO (zAG) (zAJ zAN hr rfl (zAA (pv 0) (zAA (zAG) (zAA (zAG) (zAH)))))) (zAH))))) (zAJ zAN hr rfl (zAA (pv 0) (zAA (zAG) (zAA (zAG) (zAH))))) (fun _ _=>rfl)))
  (zAE (zAP (i:=8) zAo.nd rfl (Or.inl rfl) (zAX zBF (zBE (zAA (zAe) (zAA (zAe) (zAA (zAe) (zAA (zAe) (zAA (zAe) (zAH))))))) (zAJ zAN hr rfl (zAA (pv 0) (zAA (zAG) (zAA (zAG) (zAH))))) (fun _ _=>rfl)))
  (zAE (zAP (i:=9) zAo.nd rfl (Or.inl rfl) (zDI (zAA (zAJ zDp hr rfl (zAA (pv 1) (zAA (zAG) (zAH)))) (zAA (zAJ zDp hr rfl (zAA (pv 1) (zAA (zAG) (zAH)))) (zAA (zAJ zDp hr rfl (zAA (pv 1) (zAA (zAG) (zAH)))) (zAH))))))
  (zAE (zAP (i:=10) zAo.nd rfl (Or.inl rfl) (zBE (zAA (zAG) (zAA (zAS zBO (zAG) (zAJ zAN hr rfl (zAA (pv 1) (zAA (zAG) (zAA (zAX zBF (zBE (zAA (zAG) (zAA (zAG) (zAH)))) (pv 2) (fun _ _=>rfl)) (zAH)))))) (zAA (zAS zBO (zAG) (zAJ zAN hr rfl (zAA (pv 1) (zAA (zAG) (zAA (zAX zBF (zBE (zAA (zAG) (zAA (zAG) (zAH)))) (pv 2) (fun _ _=>rfl)) (zAH)))))) (zAH))))))
  (zAE (zAP (i:=11) zAo.nd rfl (Or.inl rfl) (zAX zBF (pv 10) (zAJ zAN hr rfl (zAA (pv 1) (zAA (zAG) (zAA (zAG) (zAH))))) (fun _ _=>rfl)))
  (zAE (zAP (i:=12) zAo.nd rfl (Or.inl rfl) (zAX zBF (zBE (zAA (zAe) (zAA (zAe) (zAA (zAe) (zAA (zAe) (zAH)))))) (zAJ zAN hr rfl (zAA (pv 1) (zAA (zAG) (zAA (zAG) (zAH))))) (fun _ _=>rfl)))
  (zAE (zAP (i:=13) zAo.nd rfl (Or.inl rfl) (zCG zCB (zAJ zAN hr rfl (zAA (pv 1) (zAA (zAG) (zAA (zAG) (zAH))))) (zAG) (zAV _)))
  (zAI (zAQ (zDI (zAA (zAe) (zAA (pv 3) (zAA (pv 4) (zAA (pv 5) (zAA (pv 6) (zAA (pv 7) (zAA (zAX zAa (pv 9) (zAG) (fun _ _=>rfl)) (zAA (zAX zAa (pv 9) (zAG) (fun _ _=>rfl)) (zAA (pv 8) (zAA (pv 11) (zAA (zAX zAa (pv 9) (zAG) (fun _ _=>rfl)) (zAA (pv 12) (zAA (pv 13) (zAH) zBP) zBP) zBA) zBP) zBP) zBA) zBA) zBP) zBP) zBP) zBP) zBP) zA2)))))))))))))),?_⟩
 walk_at "st"
 subst hs
 all_goals
  walk_at "rd"
  rename_i p4 H4 g4 n4 e4 v3 h03 h13 p3 H3 g3 n3 e3 v2 h02 h12 p2 H2 g2 n2 e2 v1 h01 h11 p1 H1 g1 n1 e1 p0 H0 g0 n0 e0 v0 h00 h10
  refine zHe (fun b=>2≤b∧b≤16) e0 (by omega) (by show _ < (4:Int);omega) (by simp only [List.mem_cons,List.not_mem_nil,or_false];rintro v (rfl | rfl | rfl | rfl) <;> exact ⟨_,rfl,by omega,by omega⟩) fun b hb=>?_
  have gA:Same H H0:=by walk_at "sm"
  clear e0 e1 e2 e3 e4
  walk_at "rd"
  rename_i p5 H5 g5 n5 e5 v5 h05 h15
  refine zHc zFN e5 (by omega) (by show _ < (5:Int);omega)  zUc fun sn hsn=>?_
  clear e5
  walk_at "rd"
  rename_i v6 h06 h16 p7 H7 g7 n7 e7 v7 h07 h17
  refine zHe (fun z=>0≤z∧z≤9) e7 (by omega) (by show _ < (3:Int);omega) (by simp only [List.mem_cons,List.not_mem_nil,or_false];rintro v (rfl | rfl | rfl) <;> exact ⟨_,rfl,by omega,by omega⟩) fun z hz=>?_
  clear e7
  walk_at "rd"
  rename_i p8 H8 g8 n8 e8 v8 h08 h18
  refine zHc Way e8 (by omega) (by show _ < (5:Int);omega)  zT2 fun wy hwy=>?_
  clear e8
  walk_at "rd"
  rename_i c3 hc3 c2 hc2 c1 hc1 pA HA gA1 eA pB HB gB nB eB v9 h09 h19 pC HC gC nC eC v10 h010 h110 pD HD gD nD eD v11 h011 h111
  refine zHe (fun wd=>0≤wd∧wd≤40) eD (by omega) (by show _ < (3:Int);omega) (by simp only [List.mem_cons,List.not_mem_nil,or_false];rintro v (rfl | rfl | rfl) <;> exact ⟨_,rfl,by omega,by omega⟩) fun wd hwd=>?_
  clear eD eC eB
  walk_at "rd"
  rename_i pE HE gE nE eE v12 h012 h112
  refine zHc zK5 eE (by omega) (by show _ < (4:Int);omega) zQ9 fun y hy=>?_
  clear eE
  walk_at "rd"
  rename_i v13 h013 h113 pF HF gF eF
  exact q _ _ _ _ _ _ _ (by walk_at "sm") (.num eF ⟨by omega,by omega,by omega,by omega,hb.1,hb.2,hsn,hz.1,hz.2,by assumption,by assumption,hwy,hwd.1,hwd.2,by assumption,hy⟩)
def zDJ (K:W.Frag) (C:Addr):Sp:=fun vs H Q _=>∃ (p:Addr) (fg pl b:Int) (sn:Str) (z:Int) (m pt:Nat) (wy:Str) (wd:Int) (f:Nat) (x:Str) (st:Bool),vs=[.ref p]∧H p=some (.tup [.str "number", .int fg,.int pl,.int b,.str sn,.int z,.str (T [m]),.str (T [pt]),.str wy,.int wd,.str (T [f]),.str x,.bl st]) ∧ ∀ o H',Same H H'→zAZ K H' o C wd f x st (zB0 fg pl b sn z m pt wy)→Q (.ref o) H'
theorem zKU {K:W.Frag} {H:Hp} {Q:VK} {a:Addr} {xs:List V} {lo hi:Option Int} {n:Nat} (h:H a=some (.tup xs)) (hn:xs.length=n) (hw : ¬ (HT.sIx n 0 lo=0∧HT.sIx n n hi=n)) (q : ∀ p H',Same H H'→H' p=some (.tup (cutV xs lo hi))→Q (.ref p) H'):rSlT K (.ref a) lo hi H Q:=⟨a,xs,rfl,SqT.of h,by rw [hn];exact hw,fun p hp=>q p _ (zE7 hp _) zAU⟩
theorem zHu {f:Addr} {fd:FuncData} (F:Fun K "_law_number_form" "_law_number_form" zBm f fd) (B:Blt mg) {zAB:Addr} (zBW:mg "NumberForm" = some (.ref zAB)) (zDV:HasI P w K mg base CX0 zAB 2 ["self", "figures", "places", "base", "sign", "size", "mark", "point", "way", "width", "fill", "side", "strict"] (zBv K zAB))(cl:Cls K zAB) (na:zBw K zAB (bns++nns)):FnOk P w K mg base CX0 4 f fd ["_law_spec_here"] (zDJ K zAB):=by
 refine F.ok zAi (fun vs H Q E h=>?_) (fun cdv A outer s H vs Q E hr h=>?_)
 ·obtain ⟨p,fg,pl,b,sn,z,m,pt,wy,wd,f,x,st,rfl,hp,q⟩:=h
  rfl
 obtain ⟨p,fg,pl,b,sn,z,m,pt,wy,wd,f,x,st,rfl,hp,q⟩:=h
 refine ⟨_,zAE (zLu (zBR zKa (pv 0) (zBI (zAG)) (zBI (zAG))) (zME rfl (zBh (zBX (i:=1) zAi.nd rfl (Or.inl rfl)) (zBh (zBX (i:=2) zAi.nd rfl (Or.inl rfl)) (zBh (zBX (i:=3) zAi.nd rfl (Or.inl rfl)) (zBh (zBX (i:=4) zAi.nd rfl (Or.inl rfl)) (zBh (zBX (i:=5) zAi.nd rfl (Or.inl rfl)) (zBh (zBX (i:=6) zAi.nd rfl (Or.inl rfl)) (zBh (zBX (i:=7) zAi.nd rfl (Or.inl rfl)) (zJa))))))))))
  (zAE (zLu (zBR zKa (pv 0) (zBI (zAG)) (zCa)) (zME rfl (zBh (zBX (i:=8) zAi.nd rfl (Or.inl rfl)) (zBh (zBX (i:=9) zAi.nd rfl (Or.inl rfl)) (zBh (zBX (i:=10) zAi.nd rfl (Or.inl rfl)) (zBh (zBX (i:=11) zAi.nd rfl (Or.inl rfl)) (zBh (zBX (i:=12) zAi.nd rfl (Or.inl rfl)) (zJa))))))))
  (zAI (zAQ (zG5 zDV zBn hr rfl zBW (zAA (pv 1) (zAA (pv 2) (zAA (pv 3) (zAA (pv 4) (zAA (pv 5) (zAA (pv 6) (zAA (pv 7) (zAA (pv 8) (zAA (pv 9) (zAA (pv 10) (zAA (pv 11) (zAA (pv 12) (zAH) zBP) zBP) zBP) zBP) zBP) zBP) zBP) zBP) zBP) zBP) zBP) zBP))))),?_⟩
 walk_at "st"
 walk_at "rd"
 refine zKU (n:=13) hp rfl (by decide) fun p1 H1 g1 e1=>?_
 have e1':H1 p1=some (.tup [.int fg,.int pl,.int b,.str sn,.int z,.str (T [m]),.str (T [pt])]):=e1
 clear e1
 walk_at "rd"
 refine zKU (n:=13) (g1.at hp) rfl (by decide) fun p2 H2 g2 e2=>?_
 have e2':H2 p2=some (.tup [.str wy,.int wd,.str (T [f]),.str x,.bl st]):=e2
 clear e2
 walk_at "rd"
 intro o dx no nd ne
 refine ⟨o,dx,fg,pl,b,sn,z,m,pt,wy,wd,f,x,st,rfl,zAU,?_⟩
 have F0:zAZ K (upd (upd (upd H2 dx (.own o)) o (.ins zAB dx [])) o (.ins zAB dx (bfs wd f x st (zB0 fg pl b sn z m pt wy)))) o zAB wd f x st (zB0 fg pl b sn z m pt wy):=⟨⟨dx,zAU⟩,cl,na⟩
 have g3:Same H2 (upd (upd (upd H2 dx (.own o)) o (.ins zAB dx [])) o (.ins zAB dx (bfs wd f x st (zB0 fg pl b sn z m pt wy)))):=zAq (zAq (zAq (Same.refl _) nd) no) no
 generalize upd (upd (upd H2 dx (.own o)) o (.ins zAB dx [])) o (.ins zAB dx (bfs wd f x st (zB0 fg pl b sn z m pt wy)))=H3 at F0 g3 ⊢
 exact ⟨rfl,q _ _ ((g1.trans g2).trans g3) F0⟩
theorem zJR {l:List Nat} (h:Asc l) (k:Nat):l.getD k 0 < 127:=by
 rw [List.getD_eq_getElem?_getD]
 cases e:l[k]? with
 | none=>decide
 | some c=>exact h c (List.mem_of_getElem? e)
local macro_rules | `(tactic| walk_at "asc")=>`(tactic| first | assumption | exact Asc.nil | exact Asc.one (zJR (by assumption) _) | exact Asc.one (by decide) | (with_reducible refine Asc.app ?_ ?_ <;> walk_at "asc") | (with_reducible refine Asc.take ?_ _;walk_at "asc") | (with_reducible refine Asc.drop ?_ _;walk_at "asc"))
def zC1 (K:W.Frag):Sp:=fun vs H Q _=>∃ (c o s:Int),vs=[.int c,.int o,.int s]∧s=0 ∧ ∀ p H' wd f x st d,Same H H'→SpAt H' p wd f x st d→Q (.ref p) H'
theorem zNg {K:W.Frag} {c o s:Int} {H:Hp} {Q:VK} {E:XK} (h:s=0) (q : ∀ p H' wd f x st d,Same H H'→SpAt H' p wd f x st d→Q (.ref p) H'):zC1 K ([.int c,.int o,.int s]++[]) H Q E:=⟨c,o,s,rfl,h,q⟩
theorem zJF {f:Addr} {fd:FuncData} (F:Fun K "_law_word_spec" "_law_word_spec" zCI f fd) (B:Blt mg) (zAN:Has P w K mg base "_law_pick" 1 ["_law_cell", "_law_salt", "_law_many"] (zBa K)) (zEi:Has P w K mg base "_law_signs" 1 [] (zDD K)) (zDp:Has P w K mg base "_law_sign" 2 ["_law_cell", "_law_salt"] (zDb K)):FnOk P w K mg base CX0 3 f fd ["_law_cell", "_law_other", "_law_small"] (zC1 K):=by
 refine F.ok zBH (fun vs H Q E h=>?_) (fun cdv A outer s H vs Q E hr h=>?_)
 ·obtain ⟨c,o,s0,rfl,hs,q⟩:=h
  rfl
 obtain ⟨c,o,s0,rfl,hs,q⟩:=h
 refine ⟨_,zAE (zAP (i:=3) zBH.nd rfl (Or.inl rfl) (zAJ zAN hr rfl (zAA (pv 0) (zAA (zAG) (zAA (zAG) (zAH))))))
  (zAE (zAP (i:=4) zBH.nd rfl (Or.inl rfl) (zAS zBO (zAG) (zAJ zAN hr rfl (zAA (pv 0) (zAA (zAG) (zAA (zAG) (zAH)))))))
  (zAE (zAP (i:=5) zBH.nd rfl (Or.inl rfl) (zBR zEW (zQs (zJj zEi hr rfl) (zBI (pv 3)) (zCa) (pv 4)) (zCa) (zBI (zAS zBO (zAG) (zAJ zAN hr rfl (zAA (pv 0) (zAA (zAG) (zAA (zAX zBF (zBE (zAA (zAG) (zAA (zAG) (zAH)))) (pv 2) (fun _ _=>rfl)) (zAH)))))))))
  (zAE (zAP (i:=6) zBH.nd rfl (Or.inl rfl) (zAJ zAN hr rfl (zAA (pv 1) (zAA (zAG) (zAA (zAX zBF (zBE (zAA (zAG) (zAA (zAG) (zAH)))) (pv 2) (fun _ _=>rfl)) (zAH))))))
  (zAE (zAP (i:=7) zBH.nd rfl (Or.inl rfl) (zAO (zG7 rfl) B.z_min rfl zN1 (zAA (zAG) (zAA (zAS zBO (pv 6) (zAJ zAN hr rfl (zAA (pv 1) (zAA (zAG) (zAA (zAX zBF (zBE (zAA (zAG) (zAA (zAG) (zAH)))) (pv 2) (fun _ _=>rfl)) (zAH)))))) (zAH)))))
  (zAE (zAP (i:=8) zBH.nd rfl (Or.inl rfl) (zAX zBF (zBE (zAA (zAX zDS (pv 5) (zAG) (fun _ _=>rfl)) (zAA (zAJ zDp hr rfl (zAA (pv 1) (zAA (zAG) (zAH)))) (zAA (zAX zDS (pv 5) (zHr zEk (zAG)) (fun _ _=>rfl)) (zAH))))) (zAJ zAN hr rfl (zAA (pv 1) (zAA (zAG) (zAA (zAG) (zAH))))) (fun _ _=>rfl)))
  (zAE (zAP (i:=9) zBH.nd rfl (Or.inl rfl) (zAX zBF (zBE (zAA (zAG) (zAA (zAS zBO (zAG) (zAJ zAN hr rfl (zAA (pv 1) (zAA (zAG) (zAA (zAX zBF (zBE (zAA (zAG) (zAA (zAG) (zAH)))) (pv 2) (fun _ _=>rfl)) (zAH)))))) (zAA (pv 7) (zAH))))) (zAJ zAN hr rfl (zAA (pv 1) (zAA (zAG) (zAA (zAG) (zAH))))) (fun _ _=>rfl)))
  (zAE (zAP (i:=10) zBH.nd rfl (Or.inl rfl) (zAX zBF (zBE (zAA (zAe) (zAA (zAe) (zAA (zAe) (zAH))))) (zAJ zAN hr rfl (zAA (pv 1) (zAA (zAG) (zAA (zAG) (zAH))))) (fun _ _=>rfl)))
  (zAI (zAQ (zDI (zAA (zAe) (zAA (pv 5) (zAA (pv 6) (zAA (pv 7) (zAA (pv 9) (zAA (pv 8) (zAA (pv 10) (zAA (zCG zCB (zAJ zAN hr rfl (zAA (pv 1) (zAA (zAG) (zAA (zAG) (zAH))))) (zAG) (zAV _)) (zAH) zOO) zBP) zBP) zBP) zBP) zBP) zBP) zA2))))))))))),?_⟩
 walk_at "st"
 subst hs
 all_goals
  walk_at "rd"
  rename_i v1 h01 h11 v0 h00 h10 l hl al
  obtain ⟨p1,p2,p3⟩:=zO8 (a:=l) (s:=v1) (st:=1+v0) h01 (by omega) (by omega)
  refine ⟨T l,rfl,by omega,by show l.length≤sizeLine;rw [hl];decide,Nat.le_of_lt (zCF (by omega)),fun y hy=>?_⟩
  have hy' : ∃ z:List Nat,y=T z∧0 < z.length∧z.length≤200∧Asc z:=by
   rcases hy with rfl | ⟨_,rfl⟩
   ·exact ⟨_,rfl,List.length_pos_iff.mpr p1,by omega,fun c hc=>al c (p2 c hc)⟩
   ·exact ⟨l,rfl,by omega,by omega,al⟩
  obtain ⟨z,rfl,z1,z2,z3⟩:=hy'
  clear hy p1 p2 p3
  walk_at "rd"
  rename_i q3 H3 g3 m3 e3 v3 h03 h13 q2 H2 g2 m2 e2 v2 h02 h12 q1 H1 g1 m1 e1 v9 h09 h19 k0 hk0 c0 hc0 qf Hf gf mf ef vf hf0 hf1
  have s1:0 < (z.take (1+v3).toNat).length:=by rw [List.length_take];omega
  have s2:(z.take (1+v3).toNat).length≤200:=by rw [List.length_take];omega
  have s3:Asc (z.take (1+v3).toNat):=z3.take _
  generalize z.take (1+v3).toNat=sg at ef s1 s2 s3 ⊢
  have sm : ∀ k,k < sg.length→sg.getD k 0 < 127:=fun k hk=>s3 _ (by rw [List.getD_eq_getElem?_getD,List.getElem?_eq_getElem hk];exact List.getElem_mem _)
  refine zHc (fun y=>∃ f:Nat,y=T [f]∧f < 127) ef (by omega) (by show _ < (3:Int);omega) (by simp only [List.mem_cons,List.not_mem_nil,or_false];rintro v (rfl | rfl | rfl) <;> exact ⟨_,rfl,_,rfl,by first | assumption | exact zJR s3 _⟩) fun y hy=>?_
  obtain ⟨f,rfl,hf⟩:=hy
  have g0:Same H Hf:=by walk_at "sm"
  clear ef e1 e2 e3
  walk_at "rd"
  rename_i q8 H8 g8 m8 e8 v8 h08 h18 q7 H7 g7 m7 e7 v7 h07 h17
  refine zHe (fun wd=>0≤wd∧wd≤40) e7 (by omega) (by show _ < (3:Int);omega) (by simp only [List.mem_cons,List.not_mem_nil,or_false];rintro v (rfl | rfl | rfl) <;> exact ⟨_,rfl,by omega,by omega⟩) fun wd hwd=>?_
  clear e7 e8
  walk_at "rd"
  rename_i q6 H6 g6 m6 e6 v6 h06 h16
  refine zHc Side e6 (by omega) (by show _ < (3:Int);omega) zNs fun y hy=>?_
  clear e6
  walk_at "rd"
  rename_i v5 h05 h15 q5 H5 g5 e5
  exact q _ _ _ _ _ _ _ (by walk_at "sm") (.word e5 ⟨by omega,s2,h02,by omega,by omega,hwd.1,hwd.2,hy,s3,hf⟩)
def zEv (K:W.Frag):Sp:=fun vs H Q _=>∃ (c n:Int),vs=[.int c,.int n]∧1≤n∧n≤12 ∧ ∀ L H' ns,Same H H'→H' L=some (.lst (tsV ns))→(ns.length:Int)=n→(∀ t ∈ ns,1≤t.length∧t.length≤13∧Asc t)→Q (.ref L) H'
theorem zUP {K:W.Frag} {c n:Int} {H:Hp} {Q:VK} {E:XK} (h1:1≤n) (h2:n≤12) (q : ∀ L H' ns,Same H H'→H' L=some (.lst (tsV ns))→(ns.length:Int)=n→(∀ t ∈ ns,1≤t.length∧t.length≤13∧Asc t)→Q (.ref L) H'):zEv K ([.int c,.int n]++[]) H Q E:=⟨c,n,rfl,h1,h2,q⟩
theorem fl1 : ∀ cs:List Nat,(cs.map fun c=>[c]).flatten=cs
 | []=>rfl
 | c::cs=>by rw [List.map_cons,List.flatten_cons,fl1 cs];rfl
theorem zQC {H' H4:Hp} {L:Addr} {ns:Ce} {t:List Nat} {Q:VK} (nL:H' L=none) (g4:Same H' H4) (e4:H4 L=some (.lst (tsV ns))) (hz:ns.length≤900) (q : ∀ H5,Same H' H5→H5 L=some (.lst (tsV (ns++[t])))→Q .non H5):zMg (.ref L) [.str (T t)] H4 Q:=
 zLO e4 (zCF (by rw [zBK];omega)) (q _ (zAq g4 nL) (by rw [zAU,← zFG];rfl))
theorem zM1 {ns:Ce} {t:List Nat} (h : ∀ t ∈ ns,1≤t.length∧t.length≤13∧Asc t) (h1:1≤t.length∧t.length≤13) (h2:Asc t) : ∀ u ∈ ns++[t],1≤u.length∧u.length≤13∧Asc u:=fun u hu=>by
 rcases List.mem_append.mp hu with hu | hu
 ·exact h u hu
 ·rw [List.mem_singleton.mp hu];exact ⟨h1.1,h1.2,h2⟩
theorem zMG {f:Addr} {fd:FuncData} (F:Fun K "_law_names" "_law_names" zDl f fd) (B:Blt mg) (zAN:Has P w K mg base "_law_pick" 1 ["_law_cell", "_law_salt", "_law_many"] (zBa K)) (zEi:Has P w K mg base "_law_signs" 1 [] (zDD K)):FnOk P w K mg base CX0 2 f fd ["_law_cell", "_law_many"] (zEv K):=by
 refine F.ok zBc (fun vs H Q E h=>?_) (fun cdv A outer s H vs Q E hr h=>?_)
 ·obtain ⟨c,n,rfl,h1,h2,q⟩:=h
  rfl
 obtain ⟨c,n,rfl,h1,h2,q⟩:=h
 refine ⟨_,zAE (zAP (i:=2) zBc.nd rfl (Or.inr rfl) (zBR zEW (zJj zEi hr rfl) (zBI (zAG)) (zCa)))
  (zAE (zAP (i:=3) zBc.nd rfl (Or.inl rfl) (zIJ PySem.F.plainAttrs_str PySem.F.slot_str_join PySem.F.type_str_join zJM (zBt (l:=[]) (by decide +kernel)) (zAA (zGG (cl:=[("_law_signs_here", s.heap.objs.size+1+1),("_law_cell", s.heap.objs.size+1+0)]) (fr:=["_law_cell", "_law_signs_here"]) (is:=[0,2]) rfl rfl ⟨rfl,⟨rfl,trivial⟩⟩ rfl ⟨⟨rfl,rfl,Or.inl rfl⟩,⟨⟨rfl,rfl,Or.inl rfl⟩,trivial⟩⟩ (by decide) (by decide +kernel) rfl (by decide +kernel) rfl (zFP rfl B.z_range (zAA (zAG) (zAH))) (fun _ _ _ _=>zG8) (fun _ _ _ _=>zAX zDS (pv 2) (zAJ zAN hr rfl (zAA (pv 1) (zAA (zAS zBO (zAG) (pv 0)) (zAA (zAG) (zAH))))) (fun _ _=>rfl))) (zAH))))
  (zAE (zAP (i:=4) zBc.nd rfl (Or.inl rfl) (zAJ zAN hr rfl (zAA (pv 0) (zAA (zAG) (zAA (zAG) (zAH))))))
  (zAE (zAP (i:=5) zBc.nd rfl (Or.inl rfl) (zAJ zAN hr rfl (zAA (pv 0) (zAA (zAG) (zAA (zAG) (zAH))))))
  (zAE (zAP (i:=6) zBc.nd rfl (Or.inl rfl) (zAS zBO (zAG) (zAJ zAN hr rfl (zAA (pv 0) (zAA (zAG) (zAA (zAG) (zAH)))))))
  (zAE (zAP (i:=7) zBc.nd rfl (Or.inl rfl) (zAX zBF (zBE (zAA (zAG) (zAA (zAG) (zAA (zAG) (zAA (zAG) (zAA (zAG) (zAA (zAG) (zAH)))))))) (zAJ zAN hr rfl (zAA (pv 0) (zAA (zAG) (zAA (zAG) (zAH))))) (fun _ _=>rfl)))
  (zAE (zAP (i:=8) zBc.nd rfl (Or.inl rfl) (zBE (zAH)))
  (zAE (zI4 PassesOwn.never rfl (zFP rfl B.z_range (zAA (pv 1) (zAH))) (zBX (i:=9) zBc.nd rfl (Or.inl rfl)) (zAE (zAP (i:=10) zBc.nd rfl (Or.inl rfl) (zAX zDS (pv 2) (zAS zBj (zAS zBO (zAJ zAN hr rfl (zAA (pv 0) (zAA (zAG) (zAA (zAG) (zAH))))) (zAS zCO (pv 9) (pv 7))) (zAG)) (fun _ _=>rfl)))
  (zAI (zBC (zAT zCB (pv 4) (zAG) (zAV _)) (zAI (zFL (zIJ PySem.F.plainAttrs_list PySem.F.slot_list_append PySem.F.type_list_append zGo (pv 8) (zAA (zBR zEW (pv 3) (zCa) (zBI (zAS zBO (pv 9) (zAG)))) (zAH))))) (zAI (zBC (zAT zCB (pv 4) (zAG) (zAV _)) (zAI (zFL (zIJ PySem.F.plainAttrs_list PySem.F.slot_list_append PySem.F.type_list_append zGo (pv 8) (zAA (zAS zBe (zAS zBe (zBR zEW (pv 3) (zCa) (zBI (zAO (zG7 rfl) B.z_min rfl zN1 (zAA (pv 5) (zAA (zAS zCr (pv 6) (zAG)) (zAH)))))) (pv 10)) (zBR zEW (pv 3) (zBI (zAS zBO (zAO (zG7 rfl) B.z_min rfl zN1 (zAA (pv 5) (zAA (zAS zCr (pv 6) (zAG)) (zAH)))) (zAG))) (zBI (pv 6)))) (zAH))))) (zAI (zFL (zIJ PySem.F.plainAttrs_list PySem.F.slot_list_append PySem.F.type_list_append zGo (pv 8) (zAA (zAS zBe (zBR zEW (pv 3) (zCa) (zBI (pv 9))) (zBt (l:=[48]) (by decide +kernel))) (zAH)))))))))))
  (zAE (zAP (i:=11) zBc.nd rfl (Or.inl rfl) (zAJ zAN hr rfl (zAA (pv 0) (zAA (zAG) (zAA (pv 1) (zAH))))))
  (zAI (zAQ (zAS zKZ (zBR zPy (pv 8) (zBI (pv 11)) (zCa)) (zBR zPy (pv 8) (zCa) (zBI (pv 11)))))))))))))),?_⟩
 walk_at "st"
 walk_at "rd"
 rename_i l hl al
 have lS:(l.drop (Int.toNat 1)).length=93:=by rw [List.length_drop,hl];rfl
 have aS:Asc (l.drop (Int.toNat 1)):=Asc.drop al _
 generalize l.drop (Int.toNat 1)=S at lS aS ⊢
 refine zLy (by decide) (by decide) (Nat.le_of_lt (zCF (by decide))) (fun i ys H'=>H'=H ∧ ∃ cs:List Nat,cs.length=i∧Asc cs∧ys=tsV (cs.map fun c=>[c])) ⟨rfl,[],rfl,Asc.nil,rfl⟩ (fun i ys H' _ zz=>by obtain ⟨_,cs,h,_,e⟩:=zz;rw [e,zBK,List.length_map];omega) ?_ ?_
 ·rintro i ys H' hi ⟨rfl,cs,c1,c2,rfl⟩
  walk_at "rd"
  rename_i v' h0' h1'
  refine nxC hi ⟨rfl,cs++[S.getD v'.toNat 0],by rw [List.length_append,c1];rfl,c2.app (.one (zJR aS _)),?_⟩
  rw [List.map_append,← zFG];rfl
 ·rintro ys H' ⟨rfl,B,lB,aB,rfl⟩ p1 H1 g1 n1 e1
  have lB':B.length=12:=lB
  walk_at "rd"
  refine zKu e1 (by rw [fl1,List.length_map];show B.length+B.length*0≤_;omega) ?_
  rw [show Lt (T [])=[] from rfl,zPe,fl1]
  clear e1
  walk_at "rd"
  rename_i w1 w10 w11 w2 w20 w21 w3 w30 w31 p2 H2 g2 n2 e2 w4 w40 w41
  refine zHe (fun s=>1≤s∧s≤8) e2 (by omega) (by show _ < (6:Int);omega) (by simp only [List.mem_cons,List.not_mem_nil,or_false];rintro v (rfl | rfl | rfl | rfl | rfl | rfl) <;> exact ⟨_,rfl,by omega,by omega⟩) fun s hs=>?_
  have g02:=g1.trans g2
  clear e2
  walk_at "rd"
  rename_i L H3 g3 n3 e3
  have g03:=g02.trans g3
  refine zKr (by omega) (by omega) (fun i σ H4=>∃ (ns:Ce) (r1 r2:Option V),Same H' H4∧H4 L=some (.lst (tsV ns))∧ns.length=i∧(∀ t ∈ ns,1≤t.length∧t.length≤13∧Asc t)∧σ=[some (.int c),some (.int n),some (.str (T S)),some (.str (T B)),some (.int w1),some (.int w2),some (.int (1+w3)),some (.int s),some (.ref L),r1,r2,none]) ⟨[],none,none,g03,e3,rfl,(by intro t h;cases h),rfl⟩ ?_ ?_
  ·rintro i σ H4 hi ⟨ns,r1,r2,g4,e4,ln,ht,rfl⟩
   have m0:0≤(i:Int)*s:=Int.mul_nonneg (by omega) (by omega)
   have m1:(i:Int)*s≤12*8:=Int.mul_le_mul (by omega) hs.2 (by omega) (by omega)
   have nL:H' L=none:=none_of g02 n3
   walk_at "rd"
   ·rename_i hc
    refine zQC nL g4 e4 (by omega) fun H5 g5 e5=>⟨_,_,_,g5,e5,by rw [List.length_append,ln];rfl,zM1 ht ?_ (by walk_at "asc"),rfl⟩
    simp only [List.length_append,List.length_take,List.length_drop,List.length_cons,List.length_nil,lB']
    omega
   ·rename_i hc1 hc2 k1 hk1 k2 hk2
    refine zQC nL g4 e4 (by omega) fun H5 g5 e5=>⟨_,_,_,g5,e5,by rw [List.length_append,ln];rfl,zM1 ht ?_ (by walk_at "asc"),rfl⟩
    simp only [List.length_append,List.length_take,List.length_drop,List.length_cons,List.length_nil,lB']
    omega
   ·rename_i hc1 hc2
    refine zQC nL g4 e4 (by omega) fun H5 g5 e5=>⟨_,_,_,g5,e5,by rw [List.length_append,ln];rfl,zM1 ht ?_ (by walk_at "asc"),rfl⟩
    simp only [List.length_append,List.length_take,List.length_drop,List.length_cons,List.length_nil,lB']
    omega
  ·rintro σ H4 ⟨ns,r1,r2,g4,e4,ln,ht,rfl⟩
   walk_at "rd"
   rename_i v5 v50 v51 p5 H5 g5 n5 e5 p6 H6 g6 n6 e6 p7 H7 g7 n7 e7
   refine q _ _ _ (by walk_at "sm") e7 (by rw [List.length_append,List.length_drop,List.length_take];omega) fun t h=>?_
   rcases List.mem_append.mp h with h | h
   ·exact ht t (List.mem_of_mem_drop h)
   ·exact ht t (List.mem_of_mem_take h)
local macro_rules | `(tactic| walk_at "rdc")=>`(tactic| first | ((with_reducible refine' zUP ?h1 ?h2 ?_);(case h1=>omega);(case h2=>omega);intro L' H' ns' g' e' hn' ht') | fail "none")
def zCX (K:W.Frag):Sp:=fun vs H Q _=>∃ (c o s:Int),vs=[.int c,.int o,.int s]∧s=0 ∧ ∀ p H' wd f x st d,Same H H'→SpAt H' p wd f x st d→Q (.ref p) H'
theorem zK7 {K:W.Frag} {c o s:Int} {H:Hp} {Q:VK} {E:XK} (h:s=0) (q : ∀ p H' wd f x st d,Same H H'→SpAt H' p wd f x st d→Q (.ref p) H'):zCX K ([.int c,.int o,.int s]++[]) H Q E:=⟨c,o,s,rfl,h,q⟩
theorem zH1 {f:Addr} {fd:FuncData} (F:Fun K "_law_choice_spec" "_law_choice_spec" zBp f fd) (B:Blt mg) (zM3:Has P w K mg base "_law_names" 2 ["_law_cell", "_law_many"] (zEv K)) (zAN:Has P w K mg base "_law_pick" 1 ["_law_cell", "_law_salt", "_law_many"] (zBa K)) (zDp:Has P w K mg base "_law_sign" 2 ["_law_cell", "_law_salt"] (zDb K)):FnOk P w K mg base CX0 3 f fd ["_law_cell", "_law_other", "_law_small"] (zCX K):=by
 refine F.ok zB1 (fun vs H Q E h=>?_) (fun cdv A outer s H vs Q E hr h=>?_)
 ·obtain ⟨c,o,s0,rfl,hs,q⟩:=h
  rfl
 obtain ⟨c,o,s0,rfl,hs,q⟩:=h
 refine ⟨_,zAE (zAP (i:=3) zB1.nd rfl (Or.inl rfl) (zAJ zM3 hr rfl (zAA (pv 0) (zAA (zAS zBO (zAG) (zAJ zAN hr rfl (zAA (pv 1) (zAA (zAG) (zAA (zAX zBF (zBE (zAA (zAG) (zAA (zAG) (zAH)))) (pv 2) (fun _ _=>rfl)) (zAH)))))) (zAH)))))
  (zAE (zAP (i:=4) zB1.nd rfl (Or.inl rfl) (zAX zBF (zBE (zAA (zAX zDS (zAX zBF (pv 3) (zAG) (fun _ _=>rfl)) (zHr zEk (zAG)) (fun _ _=>rfl)) (zAA (zAJ zDp hr rfl (zAA (pv 1) (zAA (zAG) (zAH)))) (zAA (zBt (l:=[48]) (by decide +kernel)) (zAH))))) (zAJ zAN hr rfl (zAA (pv 1) (zAA (zAG) (zAA (zAG) (zAH))))) (fun _ _=>rfl)))
  (zAE (zAP (i:=5) zB1.nd rfl (Or.inl rfl) (zAX zBF (zBE (zAA (zAG) (zAA (zAS zBO (zAG) (zAJ zAN hr rfl (zAA (pv 1) (zAA (zAG) (zAA (zAX zBF (zBE (zAA (zAG) (zAA (zAG) (zAH)))) (pv 2) (fun _ _=>rfl)) (zAH)))))) (zAA (zAS zBO (zAO zAu B.z_len rfl zBl (zAA (zAX zBF (pv 3) (zHr zEk (zAG)) (fun _ _=>rfl)) (zAH))) (zAG)) (zAH))))) (zAJ zAN hr rfl (zAA (pv 1) (zAA (zAG) (zAA (zAG) (zAH))))) (fun _ _=>rfl)))
  (zAE (zAP (i:=6) zB1.nd rfl (Or.inl rfl) (zAX zBF (zBE (zAA (zAe) (zAA (zAe) (zAA (zAe) (zAH))))) (zAJ zAN hr rfl (zAA (pv 1) (zAA (zAG) (zAA (zAG) (zAH))))) (fun _ _=>rfl)))
  (zAI (zAQ (zDI (zAA (zAe) (zAA (pv 3) (zAA (pv 5) (zAA (pv 4) (zAA (pv 6) (zAA (zCG zCB (zAJ zAN hr rfl (zAA (pv 1) (zAA (zAG) (zAA (zAG) (zAH))))) (zAG) (zAV _)) (zAH))))))))))))),?_⟩
 walk_at "st"
 subst hs
 all_goals
  walk_at "rd"
  rename_i p0 H0 g0 n0 e0 v0 h00 h10 L H1 ns g1 e1 hn ht
  have l0:0 < ns.length:=by omega
  have t0:=ht (ns.getD (Int.toNat 0) []) (by rw [List.getD_eq_getElem?_getD,List.getElem?_eq_getElem (show Int.toNat 0 < ns.length from l0)];exact List.getElem_mem _)
  generalize ns.getD (Int.toNat 0) []=t at t0 ⊢
  have g01:=g0.trans g1
  clear e0
  walk_at "rd"
  rename_i c2 hc2 p2 H2 g2 n2 e2 v2 h02 h12
  refine zHc (fun y=>∃ f:Nat,y=T [f]∧f < 127) e2 (by omega) (by show _ < (3:Int);omega) (by simp only [List.mem_cons,List.not_mem_nil,or_false];rintro v (rfl | rfl | rfl) <;> exact ⟨_,rfl,_,rfl,by first | assumption | exact zJR t0.2.2 _ | decide⟩) fun y hy=>?_
  obtain ⟨f,rfl,hf⟩:=hy
  clear e2
  have t1:=ht (ns.getD (ns.length - 1) []) (by rw [List.getD_eq_getElem?_getD,List.getElem?_eq_getElem (show ns.length - 1 < ns.length by omega)];exact List.getElem_mem _)
  walk_at "rd"
  rename_i p3 H3 g3 n3 e3 v3 h03 h13 p4 H4 g4 n4 e4 v4 h04 h14
  generalize ns.getD (ns.length - 1) []=u at t1 e4 ⊢
  clear e3
  refine zHe (fun wd=>0≤wd∧wd≤40) e4 (by omega) (by show _ < (3:Int);omega) (by simp only [List.mem_cons,List.not_mem_nil,or_false];rintro v (rfl | rfl | rfl) <;> exact ⟨_,rfl,by omega,by omega⟩) fun wd hwd=>?_
  clear e4
  walk_at "rd"
  rename_i p5 H5 g5 n5 e5 v5 h05 h15
  refine zHc Side e5 (by omega) (by show _ < (3:Int);omega) zNs fun y hy=>?_
  clear e5
  walk_at "rd"
  rename_i v6 h06 h16 p6 H6 g6 e6
  exact q _ _ _ _ _ _ _ (by walk_at "sm") (.cho e6 (g6.at (g5.at (g4.at (g3.at (g2.at e1))))) ⟨by omega,by omega,fun t h=>(ht t h).2.1,hwd.1,hwd.2,hy,fun t h=>(ht t h).2.2,hf⟩)
theorem zPH {w:Str} {a b P k:Int} (hb:0 < b) (h:a*P=b*k):grid w a b P=k:=by
 unfold grid
 rw [h,Int.mul_emod_right,if_neg (fun z=>absurd z.1 (by decide)),Int.mul_ediv_cancel_left _ (by omega)]
theorem zOJ {w:Str} {k S:Int} (hS:0 < S):grid w (low1 k S) (low2 k S) S=k:=by
 refine zPH (zJQ hS) ?_
 have h1:=zLG k S
 have h2:=zJL k S
 have e1:low1 k S*S=low1 k S*(low2 k S*lowS k S):=by rw [h2]
 have e2:low2 k S*k=low2 k S*(low1 k S*lowS k S):=by rw [h1]
 rw [e1,e2];ac_rfl
theorem zRF {t b:Int} (hb:0 < b):Int.gcd (low1 t b) (low2 t b)=1:=by
 unfold low1 low2 lowS
 have e0:(0:Int)≤(Int.gcd t b:Int):=by omega
 rw [if_neg (show ¬ b < 0 by omega),Int.fdiv_eq_ediv_of_nonneg _ e0,Int.fdiv_eq_ediv_of_nonneg _ e0]
 exact Int.gcd_ediv_gcd_ediv_gcd (Int.gcd_pos_of_ne_zero_right _ (show b≠0 by omega))
theorem zS6 {k S:Int} (hS:0 < S) (h1:S < 10000000000000000000000000000000000000000000000000000000000000000000000000000000000000000000000000000000000000000000000000000000000000000000000000000000000000000000000000000000000000000000000) (h2 : -10000000000000000000000000000000000000000000000000000000000000000000000000000000000000000000000000000000000000000000000000000000000000000000000000000000000000000000000000000000000000000000000 < k) (h3:k < 10000000000000000000000000000000000000000000000000000000000000000000000000000000000000000000000000000000000000000000000000000000000000000000000000000000000000000000000000000000000000000000000):GrB (low1 k S) (low2 k S):=zVT hS h1 h2 h3
def zOG (H:Hp) (p:Addr) (fg pl b:Int) (sn:Str) (z:Int) (m pt:Nat) (wy:Str) (wd:Int) (f:Nat) (x:Str) (st:Bool):Prop:=H p=some (.tup [.str "number", .int fg,.int pl,.int b,.str sn,.int z,.str (T [m]),.str (T [pt]),.str wy,.int wd,.str (T [f]),.str x,.bl st])
def zC7 (K:W.Frag):Sp:=fun vs H Q _=>∃ b t:Int,vs=[.int b,.int t]∧2≤b∧b≤16∧0≤t∧t≤60∧Q (.int (b ^ t.toNat)) H
theorem zTY {K:W.Frag} {b t:Int} {H:Hp} {Q:VK} {E:XK} (h1:2≤b) (h2:b≤16) (h3:0≤t) (h4:t≤60) (q:Q (.int (b ^ t.toNat)) H):zC7 K ([.int b,.int t]++[]) H Q E:=⟨b,t,rfl,h1,h2,h3,h4,q⟩
local macro_rules | `(tactic| walk_at "rdc")=>`(tactic| ((with_reducible refine' zTY ?h1 ?h2 ?h3 ?h4 ?_);(case h1=>omega);(case h2=>omega);(case h3=>omega);(case h4=>omega)))
def zDt (K:W.Frag):Sp:=fun vs H Q _=>∃ a b:Int,vs=[.int a,.int b]∧0 < b∧Q (.int (Int.gcd a b)) H
theorem zPn {K:W.Frag} {a b:Int} {H:Hp} {Q:VK} {E:XK} (h:0 < b) (q:Q (.int (Int.gcd a b)) H):zDt K ([.int a,.int b]++[]) H Q E:=⟨a,b,rfl,h,q⟩
local macro_rules | `(tactic| walk_at "rdc")=>`(tactic| ((with_reducible refine' zPn ?h ?_);(case h=>omega)))
def zEE (K:W.Frag):Sp:=fun vs H Q _=>∃ t b:Int,vs=[.int t,.int b]∧0 < b∧b < 10000000000000000000000000000000000000000000000000000000000000000000000000000000000000000000000000000000000000000000000000000000000000000000000000000000000000000000000000000000000000000000000 ∧ ∀ p H',Same H H'→H' p=some (.tup [.int (low1 t b),.int (low2 t b)])→Q (.ref p) H'
def zDv (K:W.Frag):Sp:=fun vs H Q _=>∃ n b:Int,vs=[.int n,.int b]∧0≤n∧2≤b∧b≤16∧n < 1766847064778384329583297500742918515827483896875618958121606201292619776∧Q (.str (T (figs b.toNat n.toNat))) H
theorem zOW {K:W.Frag} {n b:Int} {H:Hp} {Q:VK} {E:XK} (h1:0≤n) (h2:2≤b) (h3:b≤16) (h4:n < 1766847064778384329583297500742918515827483896875618958121606201292619776) (q:Q (.str (T (figs b.toNat n.toNat))) H):zDv K ([.int n,.int b]++[]) H Q E:=⟨n,b,rfl,h1,h2,h3,h4,q⟩
local macro_rules | `(tactic| walk_at "rdc")=>`(tactic| ((with_reducible refine' zOW ?h1 ?h2 ?h3 ?h4 ?_);(case h1=>omega);(case h2=>omega);(case h3=>omega);(case h4=>omega)))
theorem zLs {f:Addr} {fd:FuncData} (F:Fun K "_law_power" "_law_power" zDg f fd) (B:Blt mg):FnOk P w K mg base CX0 1 f fd ["_law_base", "_law_times"] (zC7 K):=by
 refine F.ok zEu (fun vs H Q E h=>?_) (fun cdv A outer s H vs Q E hr h=>?_)
 ·obtain ⟨b,t,rfl,h1,h2,h3,h4,q⟩:=h
  rfl
 obtain ⟨b,t,rfl,h1,h2,h3,h4,q⟩:=h
 refine ⟨_,zAE (zAP (i:=2) zEu.nd rfl (Or.inl rfl) (zAG))
  (zAE (zI4 PassesOwn.never rfl (zFP rfl B.z_range (zAA (pv 1) (zAH))) (zBX (i:=3) zEu.nd rfl (Or.inl rfl)) (zAI (zAP (i:=2) zEu.nd rfl (Or.inl rfl) (zAS zCO (pv 2) (pv 0)))))
  (zAI (zAQ (pv 2)))),?_⟩
 walk_at "st"
 walk_at "rd"
 refine zKr (by omega) (by omega) (fun i σ H'=>H'=H ∧ ∃ r,σ=[some (.int b),some (.int t),some (.int (b ^ i)),r]) ⟨rfl,none,by rw [Int.pow_zero];rfl⟩ ?_ ?_
 ·rintro i σ H' hi ⟨rfl,r,rfl⟩
  have z:=pw60 (n:=i) h1 h2 (by omega)
  walk_at "rd"
  exact ⟨rfl,some (.int (0+i)),by rw [Int.pow_succ];rfl⟩
 ·rintro σ H' ⟨rfl,r,rfl⟩
  walk_at "rd"
  exact q
theorem zPU {g l:Int} (hl:0 < l):Int.gcd l (g % l)=Int.gcd g l:=by
 rw [Int.gcd_comm g l]
 have e:g % l=g+l*(-(g / l)):=by
  have:=Int.emod_add_mul_ediv g l
  rw [Int.mul_neg];omega
 rw [e,Int.gcd_add_mul_left_right]
theorem zKQ {f:Addr} {fd:FuncData} (F:Fun K "_law_divisor" "_law_divisor" zCj f fd) (B:Blt mg):FnOk P w K mg base CX0 1 f fd ["_law_one", "_law_other"] (zDt K):=by
 refine F.ok zHT (fun vs H Q E h=>?_) (fun cdv A outer s H vs Q E hr h=>?_)
 ·obtain ⟨a,b,rfl,h0,q⟩:=h
  rfl
 obtain ⟨a,b,rfl,h0,q⟩:=h
 refine ⟨_,zAE (zH6 PassesOwn.never (zAT zJZ (pv 1) (zAG) (zAV _)) (zAI (zSo (i:=0) (j:=1) rfl zHT.nd rfl rfl (by decide) rfl rfl (zAA (pv 1) (zAA (zAS zBj (pv 0) (pv 1)) (zAH))) rfl)))
  (zAI (zAQ (zAO zFa B.z_abs rfl zKg (zAA (pv 0) (zAH))))),?_⟩
 walk_at "st"
 walk_at "rd"
 refine zKB (fun m σ H'=>H'=H ∧ ∃ (g l:Int),σ=[some (.int g),some (.int l)]∧0≤l∧Int.gcd g l=Int.gcd a b∧m=l.toNat) ⟨_,rfl,a,b,rfl,by omega,rfl,rfl⟩ ?_
 rintro m σ H' ⟨rfl,g,l,rfl,hl,hgl,rfl⟩
 walk_at "rd"
 ·rename_i hc k' hk'
  subst hc
  rw [Int.gcd_zero_right] at hgl
  rw [← hgl] at q
  rw [show k'=(g.natAbs:Int) by omega];exact q
 ·rename_i hc
  have e1:=Int.emod_nonneg g (show l≠0 by omega)
  have e2:=Int.emod_lt_of_pos g (show 0 < l by omega)
  exact ⟨_,by omega,rfl,l,g % l,rfl,e1,(zPU (by omega)).trans hgl,rfl⟩
theorem zLI {f:Addr} {fd:FuncData} (F:Fun K "_law_lowest" "_law_lowest" zC5 f fd) (B:Blt mg) (zKx:Has P w K mg base "_law_divisor" 1 ["_law_one", "_law_other"] (zDt K)):FnOk P w K mg base CX0 2 f fd ["_law_top", "_law_bottom"] (zEE K):=by
 refine F.ok zIC (fun vs H Q E h=>?_) (fun cdv A outer s H vs Q E hr h=>?_)
 ·obtain ⟨t,b,rfl,h0,h1,q⟩:=h
  rfl
 obtain ⟨t,b,rfl,h0,h1,q⟩:=h
 refine ⟨_,zAE (zAP (i:=2) zIC.nd rfl (Or.inl rfl) (zAJ zKx hr rfl (zAA (pv 0) (zAA (pv 1) (zAH)))))
  (zAI (zAQ (zDI (zAA (zAS zCA (pv 0) (pv 2)) (zAA (zAS zCA (pv 1) (pv 2)) (zAH)))))),?_⟩
 walk_at "st"
 have e0:0 < (Int.gcd t b:Int):=by have:=Int.gcd_pos_of_ne_zero_right t (show b≠0 by omega);omega
 have e1:(Int.gcd t b:Int)≤b.natAbs:=by have:=Int.gcd_le_natAbs_right (a:=t) (b:=b) (by omega);omega
 walk_at "rd"
 refine q _ _ (by assumption) ?_
 unfold low1 low2 lowS;rw [if_neg (show ¬ b < 0 by omega),Int.fdiv_eq_ediv_of_nonneg _ (Int.le_of_lt e0),Int.fdiv_eq_ediv_of_nonneg _ (Int.le_of_lt e0)];assumption
theorem zRc {K:W.Frag} {t b:Int} {H:Hp} {Q:VK} {E:XK} (h1:0 < b) (h2:b < 10000000000000000000000000000000000000000000000000000000000000000000000000000000000000000000000000000000000000000000000000000000000000000000000000000000000000000000000000000000000000000000000) (q : ∀ p H',Same H H'→H' p=some (.tup [.int (low1 t b),.int (low2 t b)])→Q (.ref p) H'):zEE K ([.int t,.int b]++[]) H Q E:=⟨t,b,rfl,h1,h2,q⟩
theorem zKN {f:Addr} {fd:FuncData} (F:Fun K "_law_figures" "_law_figures" zCm f fd) (B:Blt mg):FnOk P w K mg base CX0 1 f fd ["_law_number", "_law_base"] (zDv K):=by
 refine F.ok zDs (fun vs H Q E h=>?_) (fun cdv A outer s H vs Q E hr h=>?_)
 ·obtain ⟨n,b,rfl,h1,h2,h3,h4,q⟩:=h
  rfl
 obtain ⟨n,b,rfl,h1,h2,h3,h4,q⟩:=h
 refine ⟨_,zAE (zAP (i:=2) zDs.nd rfl (Or.inl rfl) (zAX zDS (zAe) (zAS zBj (pv 0) (pv 1)) (fun _ _=>rfl)))
  (zAE (zH6 PassesOwn.never (zAT zSA (pv 0) (pv 1) (zAV _)) (zAE (zAP (i:=0) zDs.nd rfl (Or.inl rfl) (zAS zCA (pv 0) (pv 1)))
  (zAI (zAP (i:=2) zDs.nd rfl (Or.inl rfl) (zAS zBe (zAX zDS (zAe) (zAS zBj (pv 0) (pv 1)) (fun _ _=>rfl)) (pv 2))))))
  (zAI (zAQ (pv 2)))),?_⟩
 walk_at "st"
 obtain ⟨N,rfl⟩:=Int.eq_ofNat_of_zero_le h1
 obtain ⟨m,rfl⟩:=Int.eq_ofNat_of_zero_le (show 0≤b by omega)
 have hz:=zJO (b:=m) (n:=N) (by omega) (by omega)
 have em : ∀ k:Nat,(k:Int) % (m:Int)=((k % m:Nat):Int):=fun k=>(Int.natCast_emod k m).symm
 have ed : ∀ k:Nat,(k:Int) / (m:Int)=((k / m:Nat):Int):=fun k=>(Int.natCast_ediv k m).symm
 have lm : ∀ k:Nat,k % m < m:=fun k=>Nat.mod_lt k (by omega)
 simp only [Int.toNat_natCast] at q
 have l0:=lm N
 have e0:=em N
 walk_at "rd"
 rw [em N,Int.toNat_natCast]
 refine zKB (fun k σ H'=>H'=H ∧ ∃ l:List Nat,σ=[some (.int k),some (.int m),some (.str (T l))]∧figs m N=if k < m then l else figs m (k / m)++l) ⟨N,rfl,[fc (N % m)],rfl,?_⟩ ?_
 ·split
  ·rename_i z;rw [zDQ z,Nat.mod_eq_of_lt z]
  ·rename_i z;exact zHb (by omega) (by omega)
 ·rintro k σ H' ⟨rfl,l,rfl,e⟩
  have lk:=lm (k / m)
  have ek:=em (k / m)
  have ek':=ed k
  have ll:l.length≤240:=by
   have z:=congrArg List.length e
   split at z
   ·omega
   ·rw [List.length_append] at z;omega
  walk_at "rd"
  ·rename_i hc
   rw [ed k,em (k / m)]
   walk_at "rd"
   refine ⟨k / m,Nat.div_lt_self (by omega) (by omega),rfl,fc (k / m % m)::l,rfl,?_⟩
   rw [e,if_neg (by omega),zJ4 (by omega) l]
   have dz:=Nat.div_eq_zero_iff_lt (x:=k / m) (show 0 < m by omega)
   by_cases z:k / m < m
   ·rw [if_pos z,if_pos (dz.mpr z)]
   ·rw [if_neg z,if_neg (fun y=>z (dz.mp y))]
  ·rename_i hc
   rw [if_pos (by omega)] at e
   rw [← e];exact q
def zGD (K:W.Frag):Sp:=fun vs H Q _=>∃ (n:Int) (p:Addr) (fg pl b:Int) (sn:Str) (z:Int) (m pt:Nat) (wy:Str) (wd:Int) (f:Nat) (x:Str) (st:Bool),vs=[.int n,.ref p]∧zOG H p fg pl b sn z m pt wy wd f x st∧NumS fg pl b sn z m pt wy wd f x∧0≤n∧LimN fg pl b n ∧ ∀ H',Same H H'→Q (.str (T (bdI n b pl pt z m))) H'
theorem zTP {K:W.Frag} {n:Int} {p:Addr} {fg pl b:Int} {sn:Str} {z:Int} {m pt:Nat} {wy:Str} {wd:Int} {f:Nat} {x:Str} {st:Bool} {H:Hp} {Q:VK} {E:XK} (h1:zOG H p fg pl b sn z m pt wy wd f x st) (h2:NumS fg pl b sn z m pt wy wd f x) (h3:0≤n) (h4:LimN fg pl b n) (q : ∀ H',Same H H'→Q (.str (T (bdI n b pl pt z m))) H'):zGD K ([.int n,.ref p]++[]) H Q E:=⟨n,p,fg,pl,b,sn,z,m,pt,wy,wd,f,x,st,rfl,h1,h2,h3,h4,q⟩
def zLo (pl b:Int) (sn:Str) (z:Int) (m pt:Nat) (k:Int):List Nat:=bdI k.natAbs b pl pt z m++stT sn (decide (k < 0))
def zE3 (K:W.Frag):Sp:=fun vs H Q _=>∃ (k:Int) (p:Addr) (fg pl b:Int) (sn:Str) (z:Int) (m pt:Nat) (wy:Str) (wd:Int) (f:Nat) (x:Str) (st:Bool),vs=[.int k,.ref p]∧zOG H p fg pl b sn z m pt wy wd f x st∧NumS fg pl b sn z m pt wy wd f x∧LimN fg pl b k ∧ ∀ q H',Same H H'→H' q=some (.tup [.str (T (stL sn (decide (k < 0)))),.str (T (zLo pl b sn z m pt k))])→Q (.ref q) H'
theorem zUL {K:W.Frag} {k:Int} {p:Addr} {fg pl b:Int} {sn:Str} {z:Int} {m pt:Nat} {wy:Str} {wd:Int} {f:Nat} {x:Str} {st:Bool} {H:Hp} {Q:VK} {E:XK} (h1:zOG H p fg pl b sn z m pt wy wd f x st) (h2:NumS fg pl b sn z m pt wy wd f x) (h4:LimN fg pl b k) (q : ∀ q H',Same H H'→H' q=some (.tup [.str (T (stL sn (decide (k < 0)))),.str (T (zLo pl b sn z m pt k))])→Q (.ref q) H'):zE3 K ([.int k,.ref p]++[]) H Q E:=⟨k,p,fg,pl,b,sn,z,m,pt,wy,wd,f,x,st,rfl,h1,h2,h4,q⟩
def zEy (K:W.Frag):Sp:=fun vs H Q _=>∃ c t m:Int,vs=[.int c,.int t,.int m]∧0≤t∧t < 1000∧0 < m ∧ ∀ v:Int,0≤v→v < m→Q (.int v) H
theorem zTr {K:W.Frag} {c t m:Int} {H:Hp} {Q:VK} {E:XK} (h1:0≤t) (h1':t < 1000) (h2:0 < m) (q : ∀ v:Int,0≤v→v < m→Q (.int v) H):zEy K ([.int c,.int t,.int m]++[]) H Q E:=⟨c,t,m,rfl,h1,h1',h2,q⟩
local macro_rules | `(tactic| walk_at "rdc")=>`(tactic| ((with_reducible refine' zTr ?h1 ?h1' ?h2 ?_);(case h1=>omega);(case h1'=>omega);(case h2=>omega);intro v' h0' h1'))
theorem zPq {n b:Int} {t:Nat} (h0:0≤n) (h1:0≤b):(n / b ^ t).toNat=n.toNat / b.toNat ^ t∧(n % b ^ t).toNat=n.toNat % b.toNat ^ t:=by
 obtain ⟨N,rfl⟩:=Int.eq_ofNat_of_zero_le h0
 obtain ⟨B,rfl⟩:=Int.eq_ofNat_of_zero_le h1
 have e:((B:Int) ^ t)=((B ^ t:Nat):Int):=by simp
 rw [e]
 exact ⟨by rw [← Int.natCast_ediv,Int.toNat_natCast,Int.toNat_natCast,Int.toNat_natCast],by rw [← Int.natCast_emod,Int.toNat_natCast,Int.toNat_natCast,Int.toNat_natCast]⟩
theorem zSO {fg pl b n:Int} (o1:1≤fg) (o2:fg≤12) (o3:0≤pl) (o4:pl≤6) (o5:2≤b) (o6:b≤16) (h0:0≤n) (h:LimN fg pl b n):n < 1766847064778384329583297500742918515827483896875618958121606201292619776:=by
 unfold LimN at h
 have a:=pw60 (b:=b) (n:=(fg+pl).toNat) o5 o6 (by omega)
 have e:((b.toNat ^ (fg+pl).toNat:Nat):Int)=b ^ (fg+pl).toNat:=by rw [Int.natCast_pow,Int.toNat_of_nonneg (by omega)]
 omega
theorem zWO {z m:Nat} {a:List Nat} (h:0 < a.length):gr z m (a.drop (a.length - 1))=[a.getD (a.length - 1) 0]:=by
 rw [zMp (k:=0) h,if_neg (by omega),Nat.sub_zero,Nat.sub_zero,List.drop_length,show gr z m []=[] by unfold gr;rw [List.reverse_nil,zFQ (by simp)];rfl];rfl
theorem zM8 {f:Addr} {fd:FuncData} (F:Fun K "_law_body" "_law_body" zEP f fd) (B:Blt mg) (zDh:Has P w K mg base "_law_power" 1 ["_law_base", "_law_times"] (zC7 K)) (zHx:Has P w K mg base "_law_figures" 1 ["_law_number", "_law_base"] (zDv K)):FnOk P w K mg base CX0 2 f fd ["_law_steps_here", "_law_spec_here"] (zGD K):=by
 refine F.ok zBZ (fun vs H Q E h=>?_) (fun cdv A outer s H vs Q E hr h=>?_)
 ·obtain ⟨n,p,fg,pl,b,sn,z,m,pt,wy,wd,f,x,st,rfl,hp,ok,h0,h1,q⟩:=h
  rfl
 obtain ⟨n,p,fg,pl,b,sn,z,m,pt,wy,wd,f,x,st,rfl,hp,ok,h0,h1,q⟩:=h
 refine ⟨_,zAE (zLu (zBR zKa (pv 1) (zBI (zAG)) (zBI (zAG))) (zME rfl (zBh (zBX (i:=2) zBZ.nd rfl (Or.inl rfl)) (zBh (zBX (i:=3) zBZ.nd rfl (Or.inl rfl)) (zJa)))))
  (zAE (zLu (zBR zKa (pv 1) (zBI (zAG)) (zBI (zAG))) (zME rfl (zBh (zBX (i:=4) zBZ.nd rfl (Or.inl rfl)) (zBh (zBX (i:=5) zBZ.nd rfl (Or.inl rfl)) (zBh (zBX (i:=6) zBZ.nd rfl (Or.inl rfl)) (zJa))))))
  (zAE (zAP (i:=7) zBZ.nd rfl (Or.inl rfl) (zAJ zDh hr rfl (zAA (pv 3) (zAA (pv 2) (zAH)))))
  (zAE (zAP (i:=8) zBZ.nd rfl (Or.inl rfl) (zAJ zHx hr rfl (zAA (zAS zCA (pv 0) (pv 7)) (zAA (pv 3) (zAH)))))
  (zAE (zAP (i:=9) zBZ.nd rfl (Or.inl rfl) (zAX zDS (pv 8) (zHr zEk (zAG)) (fun _ _=>rfl)))
  (zAE (zI4 PassesOwn.never rfl (zLY rfl B.z_range (zAA (zAG) (zAA (zAO zAu B.z_len rfl zBl (zAA (pv 8) (zAH))) (zAH)))) (zBX (i:=10) zBZ.nd rfl (Or.inl rfl)) (zAE (zBC (PW.pt (zGR (zAT zHk (pv 4) (zAG) (zAV _)) (zD4 (zAT zCB (zAS zBj (pv 10) (pv 4)) (zAG) (zAV _))))) (zAI (zAP (i:=9) zBZ.nd rfl (Or.inl rfl) (zAS zBe (pv 5) (pv 9)))) (zAW))
  (zAI (zAP (i:=9) zBZ.nd rfl (Or.inl rfl) (zAS zBe (zAX zDS (pv 8) (zAS zCr (zAS zCr (zAO zAu B.z_len rfl zBl (zAA (pv 8) (zAH))) (zAG)) (pv 10)) (fun _ _=>rfl)) (pv 9))))))
  (zAE (zBC (zAT zCB (pv 2) (zAG) (zAV _)) (zAI (zAQ (pv 9))) (zAW))
  (zAE (zAP (i:=11) zBZ.nd rfl (Or.inl rfl) (zAJ zHx hr rfl (zAA (zAS zBj (pv 0) (pv 7)) (zAA (pv 3) (zAH)))))
  (zAI (zAQ (zAS zBe (zAS zBe (zAS zBe (pv 9) (pv 6)) (zAS zIK (zBt (l:=[48]) (by decide +kernel)) (zAS zCr (pv 2) (zAO zAu B.z_len rfl zBl (zAA (pv 11) (zAH)))))) (pv 11))))))))))),?_⟩
 walk_at "st"
 unfold zOG at hp
 have o1:=ok.fg1;have o2:=ok.fg2;have o3:=ok.pl1;have o4:=ok.pl2;have o5:=ok.b1;have o6:=ok.b2;have o7:=ok.z1;have o8:=ok.z2
 have pw:=pw6 (b:=b) (t:=pl) o5 o6 o4
 have lim:=zSO o1 o2 o3 o4 o5 o6 h0 h1
 have d0:0≤n / b ^ pl.toNat:=Int.ediv_nonneg h0 (by omega)
 have d1:n / b ^ pl.toNat≤n:=Int.ediv_le_self _ h0
 have m0:=Int.emod_nonneg n (show b ^ pl.toNat≠0 by omega)
 have m1:=Int.emod_lt_of_pos n (show 0 < b ^ pl.toNat by omega)
 obtain ⟨c1,c2⟩:=zPq (t:=pl.toNat) h0 (show 0≤b by omega)
 have bd:=zUe (b:=b.toNat) (p:=pl.toNat) (pt:=pt) (z:=z.toNat) (m:=m) (n:=n.toNat) (by omega)
 rw [← c1,← c2] at bd
 have a1:=zLC (b:=b.toNat) (n:=(n / b ^ pl.toNat).toNat) (by omega)
 have a2:=zJO (b:=b.toNat) (n:=(n / b ^ pl.toNat).toNat) (by omega) (by omega)
 have r1:=zLC (b:=b.toNat) (n:=(n % b ^ pl.toNat).toNat) (by omega)
 have r2:=zJO (b:=b.toNat) (n:=(n % b ^ pl.toNat).toNat) (by omega) (by omega)
 walk_at "rd"
 refine zKU (n:=13) hp rfl (by decide) fun p1 H1 g1 e1=>?_
 have e1':H1 p1=some (.tup [.int pl,.int b]):=e1
 clear e1
 walk_at "rd"
 refine zKU (n:=13) (g1.at hp) rfl (by decide) fun p2 H2 g2 e2=>?_
 have e2':H2 p2=some (.tup [.int z,.str (T [m]),.str (T [pt])]):=e2
 clear e2
 walk_at "rd"
 generalize figs b.toNat (n / b ^ pl.toNat).toNat=a at *
 have gl:=zMd (z:=z.toNat) (m:=m) (a:=a)
 refine zNy (by omega) (fun i σ H'=>H'=H2 ∧ ∃ r:Option V,σ=[some (.int n),some (.ref p),some (.int pl),some (.int b),some (.int z),some (.str (T [m])),some (.str (T [pt])),some (.int (b ^ pl.toNat)),some (.str (T a)),some (.str (T (gr z.toNat m (a.drop (a.length - (i+1)))))),r,none]) ⟨rfl,none,by rw [zWO a1];rfl⟩ ?_ ?_
 ·rintro i σ H' hi ⟨rfl,r,rfl⟩
  have hl:=zMd (z:=z.toNat) (m:=m) (a:=a.drop (a.length - (i+1)))
  rw [List.length_drop] at hl
  have tn:=zMp (z:=z.toNat) (m:=m) (a:=a) (k:=i+1) (by omega)
  obtain ⟨Z,rfl⟩:=Int.eq_ofNat_of_zero_le o7
  have em:(1+(i:Int)) % (Z:Int)=(((i+1) % Z:Nat):Int):=by rw [Int.natCast_emod,Int.natCast_add,Int.add_comm];rfl
  rw [Int.toNat_natCast] at *
  have ei:((a.length:Int) - 1 - (1+(i:Int))).toNat=a.length - 1 - (i+1):=by omega
  walk_at "rd"
  ·refine ⟨rfl,some (.int (1+i)),?_⟩
   rw [tn,if_pos ⟨by omega,by omega,by omega⟩,ei];rfl
  ·refine ⟨rfl,some (.int (1+i)),?_⟩
   rw [tn,if_neg (by omega),ei];rfl
  ·refine ⟨rfl,some (.int (1+i)),?_⟩
   rw [tn,if_neg (by omega),ei];rfl
 ·rintro σ H' ⟨rfl,r,rfl⟩
  rw [show a.length - (((a.length:Int) - 1).toNat+1)=0 by omega,List.drop_zero]
  have q':=q _ (g1.trans g2)
  unfold bdI at q'
  rw [bd] at q'
  generalize gr z.toNat m a=ga at *
  walk_at "rd"
  ·rw [if_pos (by omega)] at q';exact q'
  ·rw [if_neg (by omega)] at q'
   unfold pz at q'
   generalize figs b.toNat (n % b ^ pl.toNat).toNat=rr at *
   rw [show pl.toNat - rr.length=(pl - rr.length).toNat by omega,← List.append_assoc] at q'
   exact q'
theorem zQV {a:V} {B:List Nat} {sn:Str} {bl:Bool} (h:stT sn bl=[]):some (HO.tup [a,.str (T B)])=some (.tup [a,.str (T (B++stT sn bl))]):=by rw [h,List.append_nil]
theorem zL1 {f:Addr} {fd:FuncData} (F:Fun K "_law_parts" "_law_parts" zDi f fd) (B:Blt mg) (zOZ:Has P w K mg base "_law_body" 2 ["_law_steps_here", "_law_spec_here"] (zGD K)):FnOk P w K mg base CX0 3 f fd ["_law_steps_here", "_law_spec_here"] (zE3 K):=by
 refine F.ok zIs (fun vs H Q E h=>?_) (fun cdv A outer s H vs Q E hr h=>?_)
 ·obtain ⟨k,p,fg,pl,b,sn,z,m,pt,wy,wd,f,x,st,rfl,hp,ok,h1,q⟩:=h
  rfl
 obtain ⟨k,p,fg,pl,b,sn,z,m,pt,wy,wd,f,x,st,rfl,hp,ok,h1,q⟩:=h
 refine ⟨_,zAE (zAP (i:=2) zIs.nd rfl (Or.inl rfl) (zAJ zOZ hr rfl (zAA (zAO zFa B.z_abs rfl zKg (zAA (pv 0) (zAH))) (zAA (pv 1) (zAH)))))
  (zAE (zBC (PW.pt (zGR (zAT zCB (zAX zAa (pv 1) (zAG) (fun _ _=>rfl)) (zAe) (zAV _)) (zD4 (zAT zKR (pv 0) (zAG) (zAV _))))) (zAI (zAQ (zDI (zAA (zBt (l:=[40]) (by decide +kernel)) (zAA (zAS zBe (pv 2) (zBt (l:=[41]) (by decide +kernel))) (zAH)))))) (zAW))
  (zAE (zBC (PW.pt (zGR (zAT zCB (zAX zAa (pv 1) (zAG) (fun _ _=>rfl)) (zAe) (zAV _)) (zD4 (zAT zKR (pv 0) (zAG) (zAV _))))) (zAI (zAQ (zDI (zAA (zBt (l:=[]) (by decide +kernel)) (zAA (zAS zBe (pv 2) (zBt (l:=[45]) (by decide +kernel))) (zAH)))))) (zAW))
  (zAE (zBC (zAT zKR (pv 0) (zAG) (zAV _)) (zAI (zAQ (zDI (zAA (zBt (l:=[45]) (by decide +kernel)) (zAA (pv 2) (zAH)))))) (zAW))
  (zAE (zBC (zAT zCB (zAX zAa (pv 1) (zAG) (fun _ _=>rfl)) (zAe) (zAV _)) (zAI (zAQ (zDI (zAA (zBt (l:=[43]) (by decide +kernel)) (zAA (pv 2) (zAH)))))) (zAW))
  (zAE (zBC (zAT zCB (zAX zAa (pv 1) (zAG) (fun _ _=>rfl)) (zAe) (zAV _)) (zAI (zAQ (zDI (zAA (zBt (l:=[32]) (by decide +kernel)) (zAA (pv 2) (zAH)))))) (zAW))
  (zAI (zAQ (zDI (zAA (zBt (l:=[]) (by decide +kernel)) (zAA (pv 2) (zAH))))))))))),?_⟩
 walk_at "st"
 have hp0:=hp
 unfold zOG at hp
 walk_at "rd"
 rename_i k' hk'
 obtain rfl:k'=(k.natAbs:Int):=by omega
 obtain ⟨nb,n2,n3,n4⟩:=zH0 ok h1
 have n5:(bdI k.natAbs b pl pt z m).length≤400:=by
  unfold zHg sg at n4
  rw [List.length_append,List.length_append] at n4;omega
 refine zTP hp0 ok (by omega) (by unfold LimN;rw [Int.natAbs_natCast];exact h1) fun H1 g1=>?_
 unfold zLo at q
 have hp1:=g1.at hp
 generalize bdI k.natAbs b pl pt z m=B at *
 clear hp
 rcases ok.sn with rfl | rfl | rfl | rfl | rfl
 all_goals walk_at "rd"
 all_goals rename_i hc p2 H2 g2 e2
 all_goals first | rw [decide_eq_true hc] at q | rw [decide_eq_false hc] at q
 all_goals refine q _ _ (g1.trans g2) (e2.trans ?_)
 all_goals first | rfl | exact zQV rfl
theorem zMO {f:Addr} {fd:FuncData} (F:Fun K "_law_great" "_law_great" zDY f fd) (B:Blt mg):FnOk P w K mg base CX0 1 f fd ["_law_cell", "_law_at", "_law_limit"] (zEy K):=by
 refine F.ok zI0 (fun vs H Q E h=>?_) (fun cdv A outer s H vs Q E hr h=>?_)
 ·obtain ⟨c,t,m,rfl,ht,ht',hm,q⟩:=h
  rfl
 obtain ⟨c,t,m,rfl,ht,ht',hm,q⟩:=h
 refine ⟨_,zAE (zBC (PW.pt (zGR (zAT zHk (pv 0) (zNT (k:=1000000000000000000) (by unfold CPow;decide) (by decide +kernel)) (zAV _)) (zD4 (zAT zHk (zAS zK2 (pv 0) (zAS zBO (zAG) (zAS zCO (zAG) (pv 1)))) (zAG) (zAV _))))) (zAI (zAQ (zAS zBj (zAS zK2 (pv 0) (zAS zBO (zAG) (zAS zCO (zAG) (pv 1)))) (pv 2)))) (zAW))
  (zAE (zAP (i:=3) zI0.nd rfl (Or.inl rfl) (zAS zBO (zAS zBO (zAS zBj (pv 0) (zNT (k:=10000000000000000000000000000000000000000) (by unfold CPow;decide) (by decide +kernel))) (zAS zCO (zAG) (pv 1))) (zAG)))
  (zAI (zAQ (zAS zBj (zAS zCO (pv 3) (zAG)) (pv 2))))),?_⟩
 walk_at "st"
 walk_at "rd"
 all_goals exact q _ (Int.emod_nonneg _ (by omega)) (Int.emod_lt_of_pos _ hm)
def zEC (K:W.Frag):Sp:=fun vs H Q _=>∃ (ld rs:List Nat) (p:Addr) (wd:Int) (f:Nat) (x:Str) (st:Bool) (d:Fd),vs=[.str (T ld),.str (T rs),.ref p]∧SpAt H p wd f x st d∧ld.length≤2∧rs.length≤200 ∧ ∀ H',Same H H'→Q (.str (T (nfil ld (ld++rs) wd f x))) H'
theorem zLt {K:W.Frag} {ld rs:List Nat} {p:Addr} {wd:Int} {f:Nat} {x:Str} {st:Bool} {d:Fd} {H:Hp} {Q:VK} {E:XK} (h1:SpAt H p wd f x st d) (h3:ld.length≤2) (h4:rs.length≤200) (q : ∀ H',Same H H'→Q (.str (T (nfil ld (ld++rs) wd f x))) H'):zEC K ([.str (T ld),.str (T rs),.ref p]++[]) H Q E:=⟨ld,rs,p,wd,f,x,st,d,rfl,h1,h3,h4,q⟩
theorem SpAt.bd {H:Hp} {p:Addr} {wd:Int} {f:Nat} {x:Str} {st:Bool} {d:Fd} (h:SpAt H p wd f x st d):zK5 x∧0≤wd∧wd≤40∧f < 127:=by
 cases h with
 | num e ok=>exact ⟨ok.x,ok.wd1,ok.wd2,ok.f⟩
 | word e ok=>exact ⟨.inl ok.x,ok.wd1,ok.wd2,ok.f⟩
 | cho e eL ok=>exact ⟨.inl ok.x,ok.wd1,ok.wd2,ok.f⟩
theorem zWn {K:W.Frag} {H:Hp} {p:Addr} {wd:Int} {f:Nat} {x:Str} {st:Bool} {d:Fd} {Q:VK} (S:SpAt H p wd f x st d) (q:Q (.int wd) H):rIxT K (.ref p) (.int (-4)) H Q:=by
 cases S with
 | num e=>exact zIk e rfl q
 | word e=>exact zIk e rfl q
 | cho e=>exact zIk e rfl q
theorem zXC {K:W.Frag} {H:Hp} {p:Addr} {wd:Int} {f:Nat} {x:Str} {st:Bool} {d:Fd} {Q:VK} (S:SpAt H p wd f x st d) (q:Q (.str (T [f])) H):rIxT K (.ref p) (.int (-3)) H Q:=by
 cases S with
 | num e=>exact zIk e rfl q
 | word e=>exact zIk e rfl q
 | cho e=>exact zIk e rfl q
theorem zW9 {K:W.Frag} {H:Hp} {p:Addr} {wd:Int} {f:Nat} {x:Str} {st:Bool} {d:Fd} {Q:VK} (S:SpAt H p wd f x st d) (q:Q (.str x) H):rIxT K (.ref p) (.int (-2)) H Q:=by
 cases S with
 | num e=>exact zIk e rfl q
 | word e=>exact zIk e rfl q
 | cho e=>exact zIk e rfl q
theorem zWv {K:W.Frag} {H:Hp} {p:Addr} {wd:Int} {f:Nat} {x:Str} {st:Bool} {d:Fd} {Q:VK} (S:SpAt H p wd f x st d) (q:Q (.bl st) H):rIxT K (.ref p) (.int (-1)) H Q:=by
 cases S with
 | num e=>exact zIk e rfl q
 | word e=>exact zIk e rfl q
 | cho e=>exact zIk e rfl q
theorem zLL {f:Addr} {fd:FuncData} (F:Fun K "_law_filled" "_law_filled" zDA f fd) (B:Blt mg):FnOk P w K mg base CX0 1 f fd ["_law_lead", "_law_rest", "_law_spec_here"] (zEC K):=by
 refine F.ok zEG (fun vs H Q E h=>?_) (fun cdv A outer s H vs Q E hr h=>?_)
 ·obtain ⟨ld,rs,p,wd,f,x,st,d,rfl,D0,h1,h2,q⟩:=h
  rfl
 obtain ⟨ld,rs,p,wd,f,x,st,d,rfl,D0,h1,h2,q⟩:=h
 refine ⟨_,zAE (zTq (i:=3) (j:=4) (k:=5) rfl zEG.nd rfl rfl rfl rfl rfl rfl (zAA (zAX zAa (pv 2) (zHr zEk (zAG)) (fun _ _=>rfl)) (zAA (zAX zAa (pv 2) (zHr zEk (zAG)) (fun _ _=>rfl)) (zAA (zAX zAa (pv 2) (zHr zEk (zAG)) (fun _ _=>rfl)) (zAH)))) rfl)
  (zAE (zAP (i:=6) zEG.nd rfl (Or.inl rfl) (zAO (zHD rfl) B.z_max rfl zNx (zAA (zAG) (zAA (zAS zCr (zAS zCr (pv 3) (zAO zAu B.z_len rfl zBl (zAA (pv 0) (zAH)))) (zAO zAu B.z_len rfl zBl (zAA (pv 1) (zAH)))) (zAH)))))
  (zAE (zBC (zAT zCB (pv 5) (zAe) (zAV _)) (zAI (zAQ (zAS zBe (zAS zBe (pv 0) (zAS zIK (pv 4) (pv 6))) (pv 1)))) (zAW))
  (zAE (zAP (i:=7) zEG.nd rfl (Or.inl rfl) (zAX zBF (zBE (zAA (zAG) (zAA (pv 6) (zAA (zAS zCA (pv 6) (zAG)) (zAH))))) (zIJ PySem.F.plainAttrs_list PySem.F.slot_list_index PySem.F.type_list_index zP5 (zBE (zAA (zAe) (zAA (zAe) (zAA (zAe) (zAH))))) (zAA (pv 5) (zAH))) (fun _ _=>rfl)))
  (zAI (zAQ (zAS zBe (zAS zBe (zAS zBe (zAS zIK (pv 4) (pv 7)) (pv 0)) (pv 1)) (zAS zIK (pv 4) (zAS zCr (pv 6) (pv 7))))))))),?_⟩
 walk_at "st"
 obtain ⟨sx0,w0,w1,_⟩:=D0.bd
 have lt:((ld++rs).length:Int)=ld.length+rs.length:=by rw [List.length_append];omega
 have bl:=zIM (ld++rs).length wd (by omega) w1
 have bi:=zIM rs.length (wd - ld.length) (by omega) (by omega)
 unfold nfil at q
 walk_at "rd"
 refine zWn D0 ?_
 walk_at "rd"
 refine zXC D0 ?_
 walk_at "rd"
 refine zW9 D0 ?_
 walk_at "rd"
 ·rename_i k' hk' hc
  rw [if_pos hc,List.drop_left] at q
  have e1:k'=lk rs.length (wd - ld.length):=by omega
  have q':=q _ (Same.refl _)
  unfold pad at q'
  rw [show pB "right" rs.length (wd - ld.length)=0 by unfold pB;rw [pAr];omega,pAr] at q'
  subst e1
  rw [show Int.toNat 0=0 from rfl,List.replicate_zero,List.append_nil,← List.append_assoc] at q'
  exact q'
 ·rename_i k0 hk0 hc q2 H2 g2 n2 e2 q3 H3 g3 n3 e3
  have sx:Side x:=sx0.elim id fun z=>absurd z hc
  have pb:=zFJ (n:=(ld++rs).length) sx (by omega) w1
  have hk:k0=lk (ld++rs).length wd:=by omega
  clear hk0
  subst hk
  have fin : ∃ j:Nat,(["left", "right", "middle"]:List Str)[j]? = some x∧(∀ m,m < j→(["left", "right", "middle"]:List Str)[m]? ≠ some x)∧j < 1000∧atI [V.int 0,V.int (lk (ld++rs).length wd),V.int (lk (ld++rs).length wd / 2)] j=some (.int (pA x (ld++rs).length wd)):=by
   rcases sx with rfl | rfl | rfl
   ·exact ⟨0,rfl,fun m hm=>absurd hm (Nat.not_lt_zero m),by decide,by rw [pAl];rfl⟩
   ·exact ⟨1,rfl,fun m hm=>by rw [show m=0 by omega];decide +kernel,by decide,by rw [pAr];rfl⟩
   ·exact ⟨2,rfl,fun m hm=>by rcases (show m=0∨m=1 by omega) with rfl | rfl <;> decide +kernel,by decide,by rw [pAm];rfl⟩
  obtain ⟨j,j1,j2,j3,j4⟩:=fin
  obtain ⟨b1,b2,b3,_⟩:=pb
  have e4:pB x (ld++rs).length wd=lk (ld++rs).length wd - pA x (ld++rs).length wd:=rfl
  refine zSJ (zs:=["left", "right", "middle"]) j e3 j1 j2 j3 ?_
  refine zOM (SqL.of (g3.at e2)) j4 ?_
  have q':=q _ (g2.trans g3)
  rw [if_neg hc] at q'
  unfold pad at q'
  rw [e4,← List.append_assoc] at q'
  clear q j4 e2 bi
  generalize pA x ((ld++rs).length:Int) wd=A at *
  generalize lk ((ld++rs).length:Int) wd=L at *
  walk_at "rd"
  exact q'
def zFB (K:W.Frag):Sp:=fun vs H Q _=>∃ c m:Int,vs=[.int c,.int m]∧1 < m∧m < 10000000000000000000000 ∧ ∀ (v:Int) (H':Hp),Same H H' → -m < v→v < m→Q (.int v) H'
theorem zTt {K:W.Frag} {c m:Int} {H:Hp} {Q:VK} {E:XK} (h1:1 < m) (h2:m < 10000000000000000000000) (q : ∀ (v:Int) (H':Hp),Same H H' → -m < v→v < m→Q (.int v) H'):zFB K ([.int c,.int m]++[]) H Q E:=⟨c,m,rfl,h1,h2,q⟩
theorem zMB {f:Addr} {fd:FuncData} (F:Fun K "_law_steps" "_law_steps" zDc f fd) (B:Blt mg) (zAN:Has P w K mg base "_law_pick" 1 ["_law_cell", "_law_salt", "_law_many"] (zBa K)) (zNB:Has P w K mg base "_law_great" 1 ["_law_cell", "_law_at", "_law_limit"] (zEy K)):FnOk P w K mg base CX0 2 f fd ["_law_cell", "_law_limit"] (zFB K):=by
 refine F.ok zDE (fun vs H Q E h=>?_) (fun cdv A outer s H vs Q E hr h=>?_)
 ·obtain ⟨c,m,rfl,h1,h2,q⟩:=h
  rfl
 obtain ⟨c,m,rfl,h1,h2,q⟩:=h
 refine ⟨_,zAE (zAP (i:=2) zDE.nd rfl (Or.inl rfl) (zAJ zAN hr rfl (zAA (pv 0) (zAA (zAG) (zAA (zAG) (zAH))))))
  (zAE (zAP (i:=3) zDE.nd rfl (Or.inl rfl) (zAJ zNB hr rfl (zAA (pv 0) (zAA (zAG) (zAA (pv 1) (zAH))))))
  (zAE (zBC (zAT zCB (pv 2) (zAG) (zAV _)) (zAI (zAP (i:=3) zDE.nd rfl (Or.inl rfl) (zAX zBF (zBE (zAA (zAG) (zAA (zAG) (zAA (zAS zCr (pv 1) (zAG)) (zAA (zAS zCA (pv 1) (zAG)) (zAH)))))) (zAJ zAN hr rfl (zAA (pv 0) (zAA (zAG) (zAA (zAG) (zAH))))) (fun _ _=>rfl)))) (zAW))
  (zAE (zBC (zAT zCB (pv 2) (zAG) (zAV _)) (zAI (zAP (i:=3) zDE.nd rfl (Or.inl rfl) (zAS zBj (zAJ zAN hr rfl (zAA (pv 0) (zAA (zAG) (zAA (zAG) (zAH))))) (pv 1)))) (zAW))
  (zAE (zBC (zAT zCB (pv 2) (zAG) (zAV _)) (zAI (zAP (i:=3) zDE.nd rfl (Or.inl rfl) (zAS zBj (zAS zBj (pv 3) (zAG)) (pv 1)))) (zAW))
  (zAI (zAQ (zAS zCO (pv 3) (zAX zBF (zBE (zAA (zAG) (zAA (zHr zEk (zAG)) (zAH)))) (zAJ zAN hr rfl (zAA (pv 0) (zAA (zAG) (zAA (zAG) (zAH))))) (fun _ _=>rfl))))))))),?_⟩
 walk_at "st"
 have em : ∀ a:Int,0≤a % m∧a % m < m:=fun a=>⟨Int.emod_nonneg a (by omega),Int.emod_lt_of_pos a (by omega)⟩
 walk_at "rd"
 ·rename_i v2 a0 a1 v1 b0 b1 hc p1 H1 g1 n1 e1 v0 c0 c1
  refine zHe (fun k=>0≤k∧k < m) e1 (by omega) (by show _ < (4:Int);omega) (by simp only [List.mem_cons,List.not_mem_nil,or_false];rintro v (rfl | rfl | rfl | rfl) <;> exact ⟨_,rfl,by omega,by omega⟩) fun k hk=>?_
  clear e1
  walk_at "rd"
  all_goals exact q _ _ (by walk_at "sm") (by omega) (by omega)
 ·rename_i v3 a0 a1 v2 b0 b1 hc1 hc v1 c0 c1 p1 H1 g1 n1 e1 v0 d0 d1 hi
  have:=em v1
  exact q _ _ g1 (by omega) (by omega)
 ·rename_i v3 a0 a1 v2 b0 b1 hc1 hc v1 c0 c1 p1 H1 g1 n1 e1 v0 d0 d1 hi
  have:=em v1
  exact q _ _ g1 (by omega) (by omega)
 ·rename_i v2 a0 a1 v1 b0 b1 hc2 hc1 hc p1 H1 g1 n1 e1 v0 d0 d1 hi
  have:=em (v1 % 100000)
  exact q _ _ g1 (by omega) (by omega)
 ·rename_i v2 a0 a1 v1 b0 b1 hc2 hc1 hc p1 H1 g1 n1 e1 v0 d0 d1 hi
  have:=em (v1 % 100000)
  exact q _ _ g1 (by omega) (by omega)
 ·exact q _ _ (by assumption) (by omega) (by omega)
 ·exact q _ _ (by assumption) (by omega) (by omega)
def zGK (K:W.Frag):Sp:=fun vs H Q _=>∃ (c:Int) (sg:List Nat) (z:Int),vs=[.int c,.str (T sg),.int z]∧0 < sg.length∧sg.length≤200∧0≤z∧z≤100 ∧ ∀ (l:List Nat) (H':Hp),Same H H'→(l.length:Int)=z→(∀ c ∈ l,c ∈ sg)→Q (.str (T l)) H'
theorem zWh {K:W.Frag} {c z:Int} {sg:List Nat} {H:Hp} {Q:VK} {E:XK} (h1:0 < sg.length) (h2:sg.length≤200) (h3:0≤z) (h4:z≤100) (q : ∀ (l:List Nat) (H':Hp),Same H H'→(l.length:Int)=z→(∀ c ∈ l,c ∈ sg)→Q (.str (T l)) H'):zGK K ([.int c,.str (T sg),.int z]++[]) H Q E:=⟨c,sg,z,rfl,h1,h2,h3,h4,q⟩
theorem zMy {f:Addr} {fd:FuncData} (F:Fun K "_law_word" "_law_word" zER f fd) (B:Blt mg) (zAN:Has P w K mg base "_law_pick" 1 ["_law_cell", "_law_salt", "_law_many"] (zBa K)):FnOk P w K mg base CX0 2 f fd ["_law_cell", "_law_signs_here", "_law_size"] (zGK K):=by
 refine F.ok zNN (fun vs H Q E h=>?_) (fun cdv A outer s H vs Q E hr h=>?_)
 ·obtain ⟨c,sg,z,rfl,h1,h2,h3,h4,q⟩:=h
  rfl
 obtain ⟨c,sg,z,rfl,h1,h2,h3,h4,q⟩:=h
 refine ⟨_,zAI (zAQ (zIJ PySem.F.plainAttrs_str PySem.F.slot_str_join PySem.F.type_str_join zJM (zBt (l:=[]) (by decide +kernel)) (zAA (zGG (cl:=[("_law_signs_here", s.heap.objs.size+1+1),("_law_cell", s.heap.objs.size+1+0)]) (fr:=["_law_cell", "_law_signs_here"]) (is:=[0,1]) rfl rfl ⟨rfl,⟨rfl,trivial⟩⟩ rfl ⟨⟨rfl,rfl,Or.inl rfl⟩,⟨⟨rfl,rfl,Or.inl rfl⟩,trivial⟩⟩ (by decide) (by decide +kernel) rfl (by decide +kernel) rfl (zFP rfl B.z_range (zAA (pv 2) (zAH))) (fun _ _ _ _=>zG8) (fun _ _ _ _=>zAX zDS (pv 2) (zAJ zAN hr rfl (zAA (pv 1) (zAA (zAS zBO (zAG) (pv 0)) (zAA (zAO zAu B.z_len rfl zBl (zAA (pv 2) (zAH))) (zAH))))) (fun _ _=>rfl))) (zAH)))),?_⟩
 walk_at "st"
 walk_at "rd"
 refine zLy (by omega) (by omega) (Nat.le_of_lt (zCF (by omega))) (fun i ys H'=>H'=H ∧ ∃ cs:List Nat,cs.length=i∧(∀ c ∈ cs,c ∈ sg)∧ys=tsV (cs.map fun c=>[c])) ⟨rfl,[],rfl,(by intro c h;cases h),rfl⟩ (fun i ys H' _ zz=>by obtain ⟨_,cs,h,_,e⟩:=zz;rw [e,zBK,List.length_map];omega) ?_ ?_
 ·rintro i ys H' hi ⟨rfl,cs,l1,l2,rfl⟩
  walk_at "rd"
  rename_i v' h0' h1'
  refine nxC hi ⟨rfl,cs++[sg.getD v'.toNat 0],by rw [List.length_append,l1];rfl,fun c hc=>?_,?_⟩
  ·rcases List.mem_append.mp hc with hc | hc
   ·exact l2 c hc
   ·rw [List.mem_singleton.mp hc,List.getD_eq_getElem?_getD,List.getElem?_eq_getElem (by omega)];exact List.getElem_mem _
  ·rw [List.map_append,← zFG];rfl
 ·rintro ys H' ⟨rfl,cs,l1,l2,rfl⟩ p H2 g2 n2 e2
  walk_at "rd"
  refine zKu e2 (by rw [fl1,List.length_map];show cs.length+cs.length*0≤_;omega) ?_
  rw [show Lt (T [])=[] from rfl,zPe,fl1]
  exact q _ _ g2 (by omega) l2
def zGC (K:W.Frag):Sp:=fun vs H Q _=>∃ (a:Addr) (ns:List Int),vs=[.ref a,.int 0]∧SqL K H a (ns.map V.int)∧ns.length≤63 ∧ ∀ p H' wd f x st d,Same H H'→SpAt H' p wd f x st d→Q (.ref p) H'
theorem zVI {K:W.Frag} {a:Addr} {ns:List Int} {H:Hp} {Q:VK} {E:XK} (h1:SqL K H a (ns.map V.int)) (h2:ns.length≤63) (q : ∀ p H' wd f x st d,Same H H'→SpAt H' p wd f x st d→Q (.ref p) H'):zGC K ([.ref a,.int 0]++[]) H Q E:=⟨a,ns,rfl,h1,h2,q⟩
theorem zNl {f:Addr} {fd:FuncData} (F:Fun K "_law_spec" "_law_spec" zES f fd) (B:Blt mg) (zAN:Has P w K mg base "_law_pick" 1 ["_law_cell", "_law_salt", "_law_many"] (zBa K)) (zIi:Has P w K mg base "_law_choice_spec" 3 ["_law_cell", "_law_other", "_law_small"] (zCX K)) (zCn:Has P w K mg base "_law_cell_at" 1 ["_law_script", "_law_k"] (zCv K)) (zIp:Has P w K mg base "_law_number_spec" 3 ["_law_cell", "_law_other", "_law_small"] (zCW K)) (zKF:Has P w K mg base "_law_word_spec" 3 ["_law_cell", "_law_other", "_law_small"] (zC1 K)):FnOk P w K mg base CX0 4 f fd ["_law_script", "_law_small"] (zGC K):=by
 refine F.ok zHV (fun vs H Q E h=>?_) (fun cdv A outer s H vs Q E hr h=>?_)
 ·obtain ⟨a,ns,rfl,hS,h63,q⟩:=h
  rfl
 obtain ⟨a,ns,rfl,hS,h63,q⟩:=h
 refine ⟨_,zAE (zAP (i:=2) zHV.nd rfl (Or.inl rfl) (zAJ zAN hr rfl (zAA (zAJ zCn hr rfl (zAA (pv 0) (zAA (zAG) (zAH)))) (zAA (zAG) (zAA (zAG) (zAH))))))
  (zAE (zSo (i:=3) (j:=4) rfl zHV.nd rfl rfl (by decide) rfl rfl (zAA (zAJ zCn hr rfl (zAA (pv 0) (zAA (zAG) (zAH)))) (zAA (zAJ zCn hr rfl (zAA (pv 0) (zAA (zAG) (zAH)))) (zAH))) rfl)
  (zAE (zBC (zAT zKR (pv 2) (zAG) (zAV _)) (zAI (zAQ (zAJ zIp hr rfl (zAA (pv 3) (zAA (pv 4) (zAA (pv 1) (zAH))))))) (zAW))
  (zAE (zBC (zAT zCB (pv 2) (zAG) (zAV _)) (zAI (zAQ (zAJ zKF hr rfl (zAA (pv 3) (zAA (pv 4) (zAA (pv 1) (zAH))))))) (zAW))
  (zAI (zAQ (zAJ zIi hr rfl (zAA (pv 3) (zAA (pv 4) (zAA (pv 1) (zAH)))))))))),?_⟩
 walk_at "st"
 walk_at "rd"
 ·exact zKq rfl q
 ·exact zNg rfl q
 ·exact zK7 rfl q
def zGE (K:W.Frag) (cN cW cC:Addr):Sp:=fun vs H Q _=>∃ (p:Addr) (wd:Int) (f:Nat) (x:Str) (st:Bool) (d:Fd),vs=[.ref p]∧SpAt H p wd f x st d ∧ ∀ o H',Same H H'→FdAt K H' o cN cW cC wd f x st d→Q (.ref o) H'
theorem zWS {K:W.Frag} {cN cW cC p:Addr} {wd:Int} {f:Nat} {x:Str} {st:Bool} {d:Fd} {H:Hp} {Q:VK} {E:XK} (h:SpAt H p wd f x st d) (q : ∀ o H',Same H H'→FdAt K H' o cN cW cC wd f x st d→Q (.ref o) H'):zGE K cN cW cC ([.ref p]++[]) H Q E:=⟨p,wd,f,x,st,d,rfl,h,q⟩
theorem zMz {f : Addr} {fd : FuncData} (F : Fun K "_law_form" "_law_form" zET f fd) (B : Blt mg) {zAC : Addr} {zAD : Addr} {zAB : Addr} (zBU : mg "ChoiceForm" = some (.ref zAC)) (zBz : mg "WordForm" = some (.ref zAD)) (zIP : Has P w K mg base "_law_number_form" 4 ["_law_spec_here"] (zDJ K zAB)) (zDW : HasI P w K mg base CX0 zAC 2 ["self", "names", "width", "fill", "side", "strict"] (zBu K zAC)) (zEm : HasI P w K mg base CX0 zAD 2 ["self", "signs", "least", "most", "width", "fill", "side", "strict"] (zB8 K zAD))(clW : Cls K zAD) (naW : zBw K zAD (bns ++ wns)) (clC : Cls K zAC) (naC : zBw K zAC (bns ++ cns)) : FnOk P w K mg base CX0 5 f fd ["_law_spec_here"] (zGE K zAB zAD zAC) := by
  refine F.ok zNP (fun vs H Q E h => ?_) (fun cdv A outer s H vs Q E hr h => ?_)
  · obtain ⟨p, wd, f, x, st, d, rfl, D0, q⟩ := h
    rfl
  obtain ⟨p, wd, f, x, st, d, rfl, D0, q⟩ := h
  refine ⟨_, zAE (zBC (zAT zCB (zAX zAa (pv 0) (zAG) (fun _ _ => rfl)) (zAe) (zAV _)) (zAI (zAQ (zAJ zIP hr rfl (zAA (pv 0) (zAH))))) (zAW))
    (zAE (zBC (zAT zCB (zAX zAa (pv 0) (zAG) (fun _ _ => rfl)) (zAe) (zAV _)) (zAI (zAQ (zG5 zEm zBn hr rfl zBz (zAA (zAX zAa (pv 0) (zAG) (fun _ _ => rfl)) (zAA (zAX zAa (pv 0) (zAG) (fun _ _ => rfl)) (zAA (zAX zAa (pv 0) (zAG) (fun _ _ => rfl)) (zAA (zAX zAa (pv 0) (zAG) (fun _ _ => rfl)) (zAA (zAX zAa (pv 0) (zAG) (fun _ _ => rfl)) (zAA (zAX zAa (pv 0) (zAG) (fun _ _ => rfl)) (zAA (zAX zAa (pv 0) (zAG) (fun _ _ => rfl)) (zAH) zBA) zBA) zBA) zBA) zBA) zBA) zBA)))) (zAW))
    (zAI (zAQ (zG5 zDW zBn hr rfl zBU (zAA (zFl zDq rfl B.z_list zIO (zAA (zAX zAa (pv 0) (zAG) (fun _ _ => rfl)) (zAH))) (zAA (zAX zAa (pv 0) (zAG) (fun _ _ => rfl)) (zAA (zAX zAa (pv 0) (zAG) (fun _ _ => rfl)) (zAA (zAX zAa (pv 0) (zAG) (fun _ _ => rfl)) (zAA (zAX zAa (pv 0) (zAG) (fun _ _ => rfl)) (zAH)))))))))), ?_⟩
  walk_at "st"
  cases D0 with
  | num e ok =>
    walk_at "rd"
    exact ⟨p, _, _, _, _, _, _, _, _, _, _, _, _, rfl, e, fun o H1 g1 F1 => q _ _ g1 (.num F1 ok)⟩
  | @word sg lo hi e ok =>
    walk_at "rd"
    intro o dx no nd ne
    refine ⟨o, dx, sg, lo, hi, wd, f, x, st, rfl, zAU, ?_⟩
    have F1 : zAZ K (upd (upd (upd H dx (.own o)) o (.ins zAD dx [])) o (.ins zAD dx (bfs wd f x st (zDj sg lo hi)))) o zAD wd f x st (zDj sg lo hi) := ⟨⟨dx, zAU⟩, clW, naW⟩
    have g3 : Same H (upd (upd (upd H dx (.own o)) o (.ins zAD dx [])) o (.ins zAD dx (bfs wd f x st (zDj sg lo hi)))) := zAq (zAq (zAq (Same.refl _) nd) no) no
    generalize upd (upd (upd H dx (.own o)) o (.ins zAD dx [])) o (.ins zAD dx (bfs wd f x st (zDj sg lo hi))) = H3 at F1 g3 ⊢
    exact ⟨rfl, q _ _ g3 (.word F1 ok)⟩
  | @cho L ns e eL ok =>
    walk_at "rd"
    rename_i l2 H2 g2 n2 e2
    intro o dx no nd ne
    have g3 : Same H2 (upd (upd H2 dx (.own o)) o (.ins zAC dx [])) := zAq (zAq (Same.refl _) nd) no
    refine ⟨o, dx, l2, ns, wd, f, x, st, rfl, zAU, g3.at e2, fun L2 H3 sb n3 e3 eo => ⟨rfl, q _ _ (fun b u eb => ?_) (.cho ⟨⟨dx, eo⟩, clC, naC⟩ e3 ok)⟩⟩
    have eb2 := g2.at eb
    exact sb b u (fun z => by rw [z, no] at eb2; cases eb2) (g3.at eb2)
inductive VlA (H:Hp) (v:V):Fd→List Nat→List Nat→Prop
 | num {p:Addr} {fg pl b:Int} {sn:Str} {z:Int} {m pt:Nat} {wy:Str} {k:Int} (hv:v = .ref p) (hp:H p=some (.tup [.int (low1 k (b ^ pl.toNat)),.int (low2 k (b ^ pl.toNat))])) (lim:LimN fg pl b k):VlA H v (.num fg pl b sn z m pt wy) (stL sn (decide (k < 0))) (zLo pl b sn z m pt k)
 | word {sg:List Nat} {lo hi:Int} {t:List Nat} (hv:v = .str (T t)) (iw:Isw sg lo hi t):VlA H v (.word sg lo hi) [] t
 | cho {ns:Ce} {t:List Nat} (hv:v = .str (T t)) (hm:t ∈ ns):VlA H v (.cho ns) [] t
theorem VlA.same {H H':Hp} {v:V} {d:Fd} {ld rs:List Nat} (g:Same H H') (h:VlA H v d ld rs):VlA H' v d ld rs:=by
 cases h with
 | num hv hp lim=>exact .num hv (g.at hp) lim
 | word hv iw=>exact .word hv iw
 | cho hv hm=>exact .cho hv hm
def okS (wd:Int) (f:Nat) (x:Str):Fd→Prop
 | .num fg pl b sn z m pt wy=>NumS fg pl b sn z m pt wy wd f x
 | .word sg lo hi=>WdS sg lo hi wd f x
 | .cho ns=>ChS ns wd f x
theorem SpAt.okS {H:Hp} {p:Addr} {wd:Int} {f:Nat} {x:Str} {st:Bool} {d:Fd} (h:SpAt H p wd f x st d):okS wd f x d:=by
 cases h <;> assumption
theorem FdAt.okS {K:W.Frag} {H:Hp} {o cN cW cC:Addr} {wd:Int} {f:Nat} {x:Str} {st:Bool} {d:Fd} (h:FdAt K H o cN cW cC wd f x st d):okS wd f x d:=by
 cases h <;> assumption
theorem VlA.ok {H : Hp} {wd : Int} {f : Nat} {x : Str} {v : V} {d : Fd} {ld rs : List Nat} (D : okS wd f x d) (h : VlA H v d ld rs) : ld.length ≤ 2 ∧ rs.length ≤ 200 ∧ Asc ld ∧ Asc rs := by
  cases h with
  | @num q fg pl b sn z m pt wy k hv hp lim =>
    have ok : NumS fg pl b sn z m pt wy wd f x := D
    obtain ⟨nb, n2, n3, n4⟩ := zH0 ok lim
    have sl := zJq ok.sn (decide (k < 0))
    have sa := zP8 ok.sn (decide (k < 0))
    have bs := zNr (z := z.toNat) (b := b.toNat) (p := pl.toNat) (n := (k.natAbs : Int).toNat) (by have := ok.b1; omega) (by have := ok.b2; omega) (by have := ok.pl2; omega) nb.2.2.2.2.2 ok.pt ok.m
    refine ⟨by omega, ?_, sa.1, ?_⟩
    · unfold zLo bdI; rw [List.length_append]; have := bs.2.2; omega
    · unfold zLo bdI; exact bs.2.1.app sa.2
  | @word sg lo hi t hv iw =>
    have ok : WdS sg lo hi wd f x := D
    have h1 := iw.1.2; have h2 := ok.hi2
    exact ⟨by decide, by omega, Asc.nil, fun c hc => ok.sa c (iw.2 c hc)⟩
  | @cho ns t hv hm =>
    have ok : ChS ns wd f x := D
    exact ⟨by decide, Nat.le_trans (ok.len _ hm) (by decide), Asc.nil, ok.ta _ hm⟩
def zEs (K:W.Frag):Sp:=fun vs H Q _=>∃ (c:Int) (p:Addr) (wd:Int) (f:Nat) (x:Str) (st:Bool) (d:Fd),vs=[.int c,.ref p]∧SpAt H p wd f x st d ∧ ∀ v H' ld rs,Same H H'→VlA H' v d ld rs→Q v H'
theorem zUg {K:W.Frag} {c:Int} {p:Addr} {wd:Int} {f:Nat} {x:Str} {st:Bool} {d:Fd} {H:Hp} {Q:VK} {E:XK} (h1:SpAt H p wd f x st d) (q : ∀ v H' ld rs,Same H H'→VlA H' v d ld rs→Q v H'):zEs K ([.int c,.ref p]++[]) H Q E:=⟨c,p,wd,f,x,st,d,rfl,h1,q⟩
theorem zMY {f : Addr} {fd : FuncData} (F : Fun K "_law_value" "_law_value" zDZ f fd) (B : Blt mg) (zDh : Has P w K mg base "_law_power" 1 ["_law_base", "_law_times"] (zC7 K)) (zMa : Has P w K mg base "_law_lowest" 2 ["_law_top", "_law_bottom"] (zEE K)) (zOY : Has P w K mg base "_law_word" 2 ["_law_cell", "_law_signs_here", "_law_size"] (zGK K)) (zAN : Has P w K mg base "_law_pick" 1 ["_law_cell", "_law_salt", "_law_many"] (zBa K)) (zNJ : Has P w K mg base "_law_steps" 2 ["_law_cell", "_law_limit"] (zFB K)) : FnOk P w K mg base CX0 3 f fd ["_law_cell", "_law_spec_here"] (zEs K) := by
  refine F.ok zI1 (fun vs H Q E h => ?_) (fun cdv A outer s H vs Q E hr h => ?_)
  · obtain ⟨c, p, wd, f, x, st, d, rfl, D0, q⟩ := h
    rfl
  obtain ⟨c, p, wd, f, x, st, d, rfl, D0, q⟩ := h
  refine ⟨_, zAE (zBC (zAT zCB (zAX zAa (pv 1) (zAG) (fun _ _ => rfl)) (zAe) (zAV _)) (zAE (zAP (i := 2) zI1.nd rfl (Or.inl rfl) (zAJ zDh hr rfl (zAA (zAX zAa (pv 1) (zAG) (fun _ _ => rfl)) (zAA (zAX zAa (pv 1) (zAG) (fun _ _ => rfl)) (zAH)))))
    (zAI (zAQ (zAJ zMa hr rfl (zAA (zAJ zNJ hr rfl (zAA (pv 0) (zAA (zAS zCO (zAJ zDh hr rfl (zAA (zAX zAa (pv 1) (zAG) (fun _ _ => rfl)) (zAA (zAX zAa (pv 1) (zAG) (fun _ _ => rfl)) (zAH)))) (pv 2)) (zAH)))) (zAA (pv 2) (zAH))))))) (zAW))
    (zAE (zBC (zAT zCB (zAX zAa (pv 1) (zAG) (fun _ _ => rfl)) (zAe) (zAV _)) (zAI (zAQ (zAJ zOY hr rfl (zAA (pv 0) (zAA (zAX zAa (pv 1) (zAG) (fun _ _ => rfl)) (zAA (zAS zBO (zAX zAa (pv 1) (zAG) (fun _ _ => rfl)) (zAJ zAN hr rfl (zAA (pv 0) (zAA (zAG) (zAA (zAS zBO (zAS zCr (zAX zAa (pv 1) (zAG) (fun _ _ => rfl)) (zAX zAa (pv 1) (zAG) (fun _ _ => rfl))) (zAG)) (zAH)))))) (zAH))))))) (zAW))
    (zAI (zAQ (zAX zBF (zAX zAa (pv 1) (zAG) (fun _ _ => rfl)) (zAJ zAN hr rfl (zAA (pv 0) (zAA (zAG) (zAA (zAO zH3 B.z_len rfl zBl (zAA (zAX zAa (pv 1) (zAG) (fun _ _ => rfl)) (zAH))) (zAH))))) (fun _ _ => rfl))))), ?_⟩
  walk_at "st"
  cases D0 with
  | @num fg pl b sn z m pt wy e ok =>
    have o1 := ok.fg1; have o2 := ok.fg2; have o3 := ok.pl1; have o4 := ok.pl2; have o5 := ok.b1; have o6 := ok.b2
    have pw := pw6 (b := b) (t := pl) o5 o6 o4
    have pf := pw60 (b := b) (n := fg.toNat) o5 o6 (by omega)
    have pe : b ^ fg.toNat * b ^ pl.toNat = b ^ (fg + pl).toNat := by rw [← Int.pow_add, Int.toNat_add (by omega) o3]
    have pL := zOu o5 o6 (fg + pl).toNat
    have pM := zNK (n := (fg + pl).toNat) (m := 18) (by omega)
    have p18 : (16 : Int) ^ 18 = 4722366482869645213696 := by decide
    have pn : ((b.toNat ^ (fg + pl).toNat : Nat) : Int) = b ^ (fg + pl).toNat := by rw [Int.natCast_pow, Int.toNat_of_nonneg (by omega)]
    have p2 : 2 ≤ b ^ (fg + pl).toNat := by
      have e1 : b ^ (fg + pl).toNat = b ^ ((fg + pl).toNat - 1) * b := by rw [← Int.pow_succ]; congr 1; omega
      have e2 := (zOu o5 o6 ((fg + pl).toNat - 1)).1
      rw [e1]
      have := Int.mul_le_mul e2 o5 (by omega) (by omega)
      omega
    walk_at "rd"
    rw [pe]
    refine zTt (by omega) (by omega) fun v H1 g1 v1 v2 => ?_
    walk_at "rd"
    refine zRc (by omega) (by omega) fun p2 H2 g2 e2 => ?_
    exact q _ _ _ _ (g1.trans g2) (.num rfl e2 (by unfold LimN; omega))
  | @word sg lo hi e ok =>
    have o1 := ok.s1; have o2 := ok.s2; have o3 := ok.lo1; have o4 := ok.lo2; have o5 := ok.hi2
    walk_at "rd"
    rename_i v' h0' h1'
    refine zWh (by omega) o2 (by omega) (by omega) fun l H1 g1 l1 l2 => ?_
    exact q _ _ _ _ g1 (.word rfl ⟨⟨by omega, by omega⟩, l2⟩)
  | @cho L ns e eL ok =>
    have o1 := ok.n1; have o2 := ok.n2
    walk_at "rd"
    rename_i v' h0' h1'
    refine q _ _ _ _ (Same.refl _) (.cho rfl ?_)
    rw [List.getD_eq_getElem?_getD, List.getElem?_eq_getElem (by omega)]
    exact List.getElem_mem _
def zDR (K:W.Frag):Sp:=fun vs H Q _=>∃ (v:V) (p:Addr) (wd:Int) (f:Nat) (x:Str) (st:Bool) (d:Fd) (ld rs:List Nat),vs=[v,.ref p]∧SpAt H p wd f x st d∧VlA H v d ld rs ∧ ∀ q H',Same H H'→H' q=some (.tup [.str (T ld),.str (T rs)])→Q (.ref q) H'
theorem zNV {K:W.Frag} {v:V} {p:Addr} {wd:Int} {f:Nat} {x:Str} {st:Bool} {d:Fd} {ld rs:List Nat} {H:Hp} {Q:VK} {E:XK} (h1:SpAt H p wd f x st d) (h2:VlA H v d ld rs) (q : ∀ q H',Same H H'→H' q=some (.tup [.str (T ld),.str (T rs)])→Q (.ref q) H'):zDR K ([v,.ref p]++[]) H Q E:=⟨v,p,wd,f,x,st,d,ld,rs,rfl,h1,h2,q⟩
theorem zKD {f : Addr} {fd : FuncData} (F : Fun K "_law_parts_of" "_law_parts_of" zCR f fd) (B : Blt mg) (zNk : Has P w K mg base "_law_parts" 3 ["_law_steps_here", "_law_spec_here"] (zE3 K)) (zDh : Has P w K mg base "_law_power" 1 ["_law_base", "_law_times"] (zC7 K)) : FnOk P w K mg base CX0 4 f fd ["_law_value_here", "_law_spec_here"] (zDR K) := by
  refine F.ok zJb (fun vs H Q E h => ?_) (fun cdv A outer s H vs Q E hr h => ?_)
  · obtain ⟨v, p, wd, f, x, st, d, ld, rs, rfl, D0, V0, q⟩ := h
    rfl
  obtain ⟨v, p, wd, f, x, st, d, ld, rs, rfl, D0, V0, q⟩ := h
  refine ⟨_, zAE (zBC (zAT zCB (zAX zAa (pv 1) (zAG) (fun _ _ => rfl)) (zAe) (zAV _)) (zAI (zAQ (zAJ zNk hr rfl (zAA (zAS zCA (zAS zCO (zAX zAa (pv 0) (zAG) (fun _ _ => rfl)) (zAJ zDh hr rfl (zAA (zAX zAa (pv 1) (zAG) (fun _ _ => rfl)) (zAA (zAX zAa (pv 1) (zAG) (fun _ _ => rfl)) (zAH))))) (zAX zAa (pv 0) (zAG) (fun _ _ => rfl))) (zAA (pv 1) (zAH)))))) (zAW))
    (zAI (zAQ (zDI (zAA (zBt (l := []) (by decide +kernel)) (zAA (pv 0) (zAH)))))), ?_⟩
  walk_at "st"
  cases V0 with
  | @num p0 fg pl b sn z m pt wy k hv hp lim =>
    subst hv
    cases D0 with
    | num e ok =>
      have o3 := ok.pl1; have o4 := ok.pl2; have o5 := ok.b1; have o6 := ok.b2
      have pw := pw6 (b := b) (t := pl) o5 o6 o4
      have l2 := zJQ (t := k) (b := b ^ pl.toNat) (by omega)
      have l3 := zP4 (t := k) (b := b ^ pl.toNat) (by omega)
      have ek : low1 k (b ^ pl.toNat) * b ^ pl.toNat / low2 k (b ^ pl.toNat) = k := by
        have e1 := zLG k (b ^ pl.toNat)
        have e2 := zJL k (b ^ pl.toNat)
        generalize lowS k (b ^ pl.toNat) = g at *
        have e3 : low1 k (b ^ pl.toNat) * b ^ pl.toNat = low2 k (b ^ pl.toNat) * k :=
          calc low1 k (b ^ pl.toNat) * b ^ pl.toNat = low1 k (b ^ pl.toNat) * (low2 k (b ^ pl.toNat) * g) := by rw [e2]
            _ = low2 k (b ^ pl.toNat) * (low1 k (b ^ pl.toNat) * g) := by ac_rfl
            _ = low2 k (b ^ pl.toNat) * k := by rw [e1]
        rw [e3, Int.mul_ediv_cancel_left _ (by omega)]
      walk_at "rd"
      rw [ek]
      exact zUL e ok lim q
  | @word sg lo hi t hv iw =>
    subst hv
    cases D0 with
    | word e ok =>
      walk_at "rd"
      exact q _ _ (by assumption) (by assumption)
  | @cho ns t hv hm =>
    subst hv
    cases D0 with
    | cho e eL ok =>
      walk_at "rd"
      exact q _ _ (by assumption) (by assumption)
def txV (wd:Int) (f:Nat) (x:Str) (st:Bool) (ld rs:List Nat):V:=if (st && decide (wd < ((ld++rs).length:Int)))=true then .non else .str (T (nfil ld (ld++rs) wd f x))
def zF7 (K:W.Frag):Sp:=fun vs H Q _=>∃ (v:V) (p:Addr) (wd:Int) (f:Nat) (x:Str) (st:Bool) (d:Fd) (ld rs:List Nat),vs=[v,.ref p]∧SpAt H p wd f x st d∧VlA H v d ld rs ∧ ∀ H',Same H H'→Q (txV wd f x st ld rs) H'
theorem zQY {K:W.Frag} {v:V} {p:Addr} {wd:Int} {f:Nat} {x:Str} {st:Bool} {d:Fd} {ld rs:List Nat} {H:Hp} {Q:VK} {E:XK} (h1:SpAt H p wd f x st d) (h2:VlA H v d ld rs) (q : ∀ H',Same H H'→Q (txV wd f x st ld rs) H'):zF7 K ([v,.ref p]++[]) H Q E:=⟨v,p,wd,f,x,st,d,ld,rs,rfl,h1,h2,q⟩
theorem zNL {f:Addr} {fd:FuncData} (F:Fun K "_law_text" "_law_text" zEV f fd) (B:Blt mg) (zKV:Has P w K mg base "_law_parts_of" 4 ["_law_value_here", "_law_spec_here"] (zDR K)) (zL4:Has P w K mg base "_law_filled" 1 ["_law_lead", "_law_rest", "_law_spec_here"] (zEC K)):FnOk P w K mg base CX0 5 f fd ["_law_value_here", "_law_spec_here"] (zF7 K):=by
 refine F.ok zHZ (fun vs H Q E h=>?_) (fun cdv A outer s H vs Q E hr h=>?_)
 ·obtain ⟨v,p,wd,f,x,st,d,ld,rs,rfl,D0,V0,q⟩:=h
  rfl
 obtain ⟨v,p,wd,f,x,st,d,ld,rs,rfl,D0,V0,q⟩:=h
 refine ⟨_,zAE (zLu (zAJ zKV hr rfl (zAA (pv 0) (zAA (pv 1) (zAH)))) (zME rfl (zBh (zBX (i:=2) zHZ.nd rfl (Or.inl rfl)) (zBh (zBX (i:=3) zHZ.nd rfl (Or.inl rfl)) (zJa)))))
  (zAE (zBC (PW.pt (zGR (zB2 (zAX zAa (pv 1) (zHr zEk (zAG)) (fun _ _=>rfl))) (zD4 (zAT zHk (zAS zBO (zAO zAu B.z_len rfl zBl (zAA (pv 2) (zAH))) (zAO zAu B.z_len rfl zBl (zAA (pv 3) (zAH)))) (zAX zAa (pv 1) (zHr zEk (zAG)) (fun _ _=>rfl)) (zAV _))))) (zAI (zAQ (zI5))) (zAW))
  (zAI (zAQ (zAJ zL4 hr rfl (zAA (pv 2) (zAA (pv 3) (zAA (pv 1) (zAH)))))))),?_⟩
 walk_at "st"
 obtain ⟨l1,l2,a1,a2⟩:=V0.ok D0.okS
 have la:((ld++rs).length:Int)=ld.length+rs.length:=by rw [List.length_append];omega
 walk_at "rd"
 refine zNV D0 V0 fun q1 H1 g1 e1=>?_
 have D1:=D0.same g1
 unfold txV at q
 walk_at "rd"
 refine zWv D1 ?_
 walk_at "rd"
 ·rename_i hc1
  refine zWn D1 ?_
  walk_at "rd"
  ·rename_i hc2
   have q':=q _ g1
   rw [if_pos (by rw [hc1,decide_eq_true (by omega)];rfl)] at q'
   exact q'
  ·rename_i hc2
   refine zLt D1 l1 l2 fun H2 g2=>?_
   have q':=q _ (g1.trans g2)
   rw [if_neg (by rw [hc1,decide_eq_false (by omega)];decide)] at q'
   exact q'
 ·rename_i hc1
  refine zLt D1 l1 l2 fun H2 g2=>?_
  have q':=q _ (g1.trans g2)
  rw [if_neg (by rw [hc1];simp)] at q'
  exact q'
theorem zRg {b p pt z m n:Nat} (h2:2≤b) (h16:b≤16) (hp:p≤6) (h:n < b ^ (40+p)):IsB b p pt z m (bdy b p pt z m n)∧bval b p z (bdy b p pt z m n)=n:=by
 obtain ⟨d1,d2,d3,d4,d5⟩:=zJN h2 h16 hp h
 have ul:(whl b p n).length=(dgs b p n).length - p:=by unfold whl;rw [List.length_take];omega
 have rl:(rst b p n).length=p:=by unfold rst;rw [List.length_drop];omega
 have ur:whl b p n++rst b p n=dgs b p n:=List.take_append_drop _ _
 generalize hu:whl b p n=u at *
 generalize hr:rst b p n=r at *
 generalize dgs b p n=D at *
 have key:WE p pt (bdy b p pt z m n)∧zD3 p (bdy b p pt z m n)=gr z m u∧zJS p (bdy b p pt z m n)=r:=by
  unfold bdy WE zD3 zJS
  rw [hu,hr]
  rcases Nat.eq_zero_or_pos p with e | e
  ·subst e
   rw [if_pos rfl]
   exact ⟨.inl rfl,rfl,(List.length_eq_zero_iff.mp rl).symm⟩
  ·rw [if_neg (by omega),if_neg (by omega),if_neg (by omega)]
   have tl:(gr z m u++[pt]++r).length=(gr z m u).length+1+p:=by rw [List.length_append,List.length_append,rl];rfl
   rw [tl]
   have e1:(gr z m u).length+1+p - p - 1=(gr z m u).length:=by omega
   have e2:(gr z m u).length+1+p - p=(gr z m u++[pt]).length:=by rw [List.length_append,List.length_singleton];omega
   refine ⟨.inr ⟨by omega,?_⟩,?_,?_⟩
   ·rw [e1,List.append_assoc,List.getD_eq_getElem?_getD,List.getElem?_append_right (Nat.le_refl _),Nat.sub_self];rfl
   ·rw [e1,List.append_assoc,List.take_left]
   ·rw [e2,List.drop_left]
 obtain ⟨k1,k2,k3⟩:=key
 unfold IsB bval
 rw [k2,k3,zR6,ur]
 refine ⟨⟨k1,⟨by rw [zR6];omega,by rw [zR6];omega,by rw [zR6]⟩,d1,?_⟩,d2⟩
 rintro ⟨a,c⟩
 have:D.getD 0 0=48:=by rw [← ur,List.getD_eq_getElem?_getD,List.getElem?_append_left (by omega),← List.getD_eq_getElem?_getD];exact c
 have:=d5 this
 omega
theorem zQX {sn:Str} {bl:Bool} {B:List Nat}:bod sn bl (sg sn bl B)=B:=by
 unfold bod sg
 rw [List.length_append,Nat.add_sub_cancel,List.take_left,List.drop_left]
theorem zMF {pl b:Int} {sn:Str} {z:Int} {m pt:Nat} {k:Int}:zHg pl b sn z m pt k=stL sn (decide (k < 0))++zLo pl b sn z m pt k:=by unfold zHg sg zLo;rw [List.append_assoc]
theorem zPD {fg pl b:Int} {sn:Str} {z:Int} {m pt:Nat} {wy:Str} {wd:Int} {f:Nat} {x:Str} {k:Int} (ok:NumS fg pl b sn z m pt wy wd f x) (h:LimN fg pl b k):zBx fg pl b sn z m pt (decide (k < 0)) (zHg pl b sn z m pt k)=some k:=by
 obtain ⟨nb,n2,n3,n4⟩:=zH0 ok h
 obtain ⟨B,rfl⟩:=Int.eq_ofNat_of_zero_le (show 0≤b by have:=ok.b1;omega)
 have o5:=ok.b1;have o6:=ok.b2;have o4:=ok.pl2;have o3:=ok.pl1
 have nb6:=nb.2.2.2.2.2
 rw [Int.toNat_natCast,Int.toNat_natCast] at nb6
 obtain ⟨i1,i2⟩:=zRg (b:=B) (p:=pl.toNat) (pt:=pt) (z:=z.toNat) (m:=m) (n:=k.natAbs) (by omega) (by omega) (by omega) nb6
 have eb:bod sn (decide (k < 0)) (zHg pl B sn z m pt k)=bdy B pl.toNat pt z.toNat m k.natAbs:=by
  unfold zHg;rw [zQX];unfold bdI;rw [Int.toNat_natCast,Int.toNat_natCast]
 have pe:((B ^ (fg+pl).toNat:Nat):Int)=(B:Int) ^ (fg+pl).toNat:=Int.natCast_pow ..
 unfold LimN at h
 rw [Int.toNat_natCast] at h
 unfold zBx
 rw [eb,i2,if_pos ⟨n2,i1,by omega,fun e=>by have:=of_decide_eq_true e;omega⟩]
 by_cases e:k < 0
 ·rw [if_pos (decide_eq_true e)];congr 1;omega
 ·rw [if_neg (by simpa using e)];congr 1;omega
theorem zS8 {ld rs:List Nat} {sn:Str} {bl:Bool} {wd:Int} {f:Nat} {x:Str} {st:Bool} (sx:zK5 x) (hw:wd≤40) (hx:ld=stL sn bl) (nw:(st && decide (wd < ((ld++rs).length:Int)))=false):ld++rs ∈ cin (nfil ld (ld++rs) wd f x) sn bl wd f x st:=by
 unfold cin nfil
 split
 ·rw [List.drop_left,← hx]
  unfold stin
  rw [List.take_left,if_pos rfl,List.drop_left]
  refine List.mem_filter.mpr ⟨List.mem_map.mpr ⟨rs,(fnd (.inr (.inl rfl)) (by omega)).has,rfl⟩,?_⟩
  unfold nwd;rw [nw];rfl
 ·rename_i hc
  have sx':Side x:=sx.elim id fun z=>absurd z hc
  refine List.mem_filter.mpr ⟨(fnd sx' hw).has,?_⟩
  unfold nwd;rw [nw];rfl
theorem zPw {c:List Nat} {wd:Int} {f:Nat} {x:Str} {st:Bool} (sx:Side x) (hw:wd≤40) (nw:(st && decide (wd < ((([]:List Nat)++c).length:Int)))=false):c ∈ ucs (nfil [] ([]++c) wd f x) wd f x st:=by
 unfold nfil
 rw [if_neg (zN6 sx),List.nil_append]
 refine List.mem_filter.mpr ⟨(fnd sx hw).has,?_⟩
 rw [List.nil_append] at nw
 unfold nwd;rw [nw];rfl
theorem zQk {n f:Nat} (hf:f < 127):Asc (List.replicate n f):=fun c hc=>by rw [(List.mem_replicate.mp hc).2];exact hf
theorem zQ3 {t:List Nat} {wd:Int} {f:Nat} {x:Str} (h:Asc t) (hf:f < 127):Asc (pad t wd f x):=((zQk hf).app h).app (zQk hf)
theorem zJo {ld rs:List Nat} {wd:Int} {f:Nat} {x:Str} (sx:zK5 x) (w0:0≤wd) (hw:wd≤40) (hf:f < 127) (l1:ld.length≤2) (l2:rs.length≤200) (a1:Asc ld) (a2:Asc rs):Asc (nfil ld (ld++rs) wd f x)∧(nfil ld (ld++rs) wd f x).length≤300:=by
 unfold nfil
 split
 ·rw [List.drop_left]
  have pl:=zJU (f:=f) (zFJ (x:="right") (n:=rs.length) (w:=wd - ld.length) (.inr (.inl rfl)) (by omega) (by omega))
  have b2:=zIM rs.length (wd - ld.length) (by omega) (by omega)
  exact ⟨a1.app (zQ3 a2 hf),by rw [List.length_append];omega⟩
 ·rename_i hc
  have sx':Side x:=sx.elim id fun z=>absurd z hc
  have pl:=zJU (f:=f) (zFJ (x:=x) (n:=(ld++rs).length) (w:=wd) sx' (by omega) hw)
  have b2:=zIM (ld++rs).length wd (by omega) hw
  rw [List.length_append] at pl b2
  exact ⟨zQ3 (a1.app a2) hf,by omega⟩
def zR0 (K:W.Frag):R2:=fun x y H Q=>∃ d ds,Dt K H x d∧Dt K H y (.list ds)∧d ∈ ds∧PyData.canLayAll0 ds=true∧d.canLay0=true∧d.depth≤19∧Q (.bl false) H
theorem zUZ {X:Cx} (hu:X.A.units+20 < cLine):OpR X (compareOp .NotIn) (zR0 X.K):=by
 intro pins s σ H x y v u Q I rx ry h
 obtain ⟨d,ds,h1,h2,hm,c2,c,dp,q⟩:=h
 obtain ⟨as,r1⟩:=zF0 I h1 rx
 obtain ⟨bs,r2⟩:=zF0 I h2 ry
 refine SeqAt.notIn_list_reads r2 r1 c2 c (by have:=Nat.min_le_right (PyData.depthAll ds) d.depth;omega) ⟨.bl _,H,I,rfl,?_⟩
 rw [show (ds.any fun y=>y.eqv d)=true from List.any_eq_true.mpr ⟨d,hm,SeqAt.eqv_refl d c⟩];exact q
def sD (t:List Nat):PyData:=.str (T t)
theorem zWq {K : PySem.W.Frag} {H : Hp} {o cN cW cC : Addr} {wd : Int} {f : Nat} {x : Str} {st : Bool} {d : Fd} {v : V} {ld rs : List Nat} (F : FdAt K H o cN cW cC wd f x st d) (W : VlA H v d ld rs) : CoA K H o v cN cW cC wd f x st (ld ++ rs) ld := by
  have ok := W.ok F.okS
  cases W with
  | @num p fg pl b sn z m pt wy k hv hp lim =>
    cases F with
    | num F ok =>
      have o1 := ok.fg1; have o2 := ok.fg2; have o3 := ok.pl1; have o4 := ok.pl2; have o5 := ok.b1; have o6 := ok.b2
      have pw := pw6 (b := b) (t := pl) o5 o6 o4
      have lm := zSO (n := (k.natAbs : Int)) o1 o2 o3 o4 o5 o6 (by omega) (by unfold LimN at *; rw [Int.natAbs_natCast]; exact lim)
      rw [← zMF]
      exact .num hv F ok hp (zS6 (by omega) (by omega) (by omega) (by omega)) (zRF (by omega)) (zOJ (by omega)) lim
  | @word sg lo hi t hv iw =>
    cases F with
    | word F o => exact .word hv F (by rw [List.nil_append]; omega) iw o.x
  | @cho ns t hv hm =>
    cases F with
    | cho F e o => exact .cho hv F e (by rw [List.nil_append]; omega) hm o.x
theorem zMX {K : W.Frag} {H : Hp} {o cN cW cC : Addr} {wd : Int} {f : Nat} {x : Str} {st : Bool} {d : Fd} {n : Int} {σ : St} {E : XK} {ta : TE} {t : TA} {Q : VK} (F : FdAt K H o cN cW cC wd f x st d) (w0 : 0 ≤ n) (w1 : n ≤ 40)
    (hta : ∀ Q' : VK, Q' (.ref o) H → ta σ H Q') (ht : ∀ Q' : List V → Hp → Prop, Q' [.int n] H → t σ H Q') (q : ∀ o' H', Same H H' → FdAt K H' o' cN cW cC n f x st d → Q (.ref o') H') :
    tOrE (zLP cN "widened" (zCb K cN) [] E ta t) (tOrE (zLP cW "widened" (zC3 K cW) [] E ta t) (zLP cC "widened" (zCe K cC) [] E ta t)) σ H Q := by
  cases F with
  | num F ok =>
    refine zH2 (zJ0 (hta _ (zHh (zND F (by decide +kernel) (by decide +kernel)) (ht _ ?_))))
    exact ⟨o, _, _, _, _, _, _, _, _, _, _, _, _, n, rfl, F, fun o' H' g' F' => q o' H' g' (.num F' { ok with wd1 := w0, wd2 := w1 })⟩
  | word F ok =>
    refine zFC (zH2 (zJ0 (hta _ (zHh (zM0 F (by decide +kernel) (by decide +kernel) (by decide +kernel) (by decide +kernel)) (ht _ ?_)))))
    exact ⟨o, _, _, _, _, _, _, _, n, rfl, F, fun o' H' g' F' => q o' H' g' (.word F' { ok with wd1 := w0, wd2 := w1 })⟩
  | cho F e ok =>
    refine zFC (zFC (zJ0 (hta _ (zHh (zNX F (by decide +kernel) (by decide +kernel)) (ht _ ?_)))))
    exact ⟨o, _, _, _, _, _, _, n, rfl, F, e, fun o' L' H' g' F' e' => q o' H' g' (.cho F' e' { ok with wd1 := w0, wd2 := w1 })⟩
def rD (S k:Int):PyData:=.tuple [.int (low1 k S),.int (low2 k S)]
theorem zSN (S:Int) : ∀ ms:List Int,PyData.canLayAll0 (ms.map (rD S))=true
 | []=>by simp [PyData.canLayAll0]
 | k::ms=>by simp only [List.map_cons,PyData.canLayAll0,zSN S ms,rD,PyData.canLay0,Bool.and_true]
theorem zQF : ∀ ds : List (List Nat), (∀ t ∈ ds, Asc t) → PyData.canLayAll0 (ds.map sD) = true
  | [], _ => by simp [PyData.canLayAll0]
  | t :: ds, h => by
    have o1 := ok_T (h t (List.mem_cons_self ..))
    simp only [List.map_cons, PyData.canLayAll0, zQF ds (fun u hu => h u (List.mem_cons_of_mem _ hu)), sD, PyData.canLay0, o1, Bool.and_true]
theorem zVl {K : W.Frag} {H : Hp} {S : Int} {us : List V} {ms : List Int} (al : Al (RT H S) us ms) : Dts K H us (ms.map (rD S)) := by
  induction al with
  | nil => exact .nil
  | cons h _ ih =>
    obtain ⟨p, rfl, e⟩ := h
    exact .cons (.tup (SqT.of e) (.cons (.int _) (.cons (.int _) .nil))) ih
theorem zGS {K:W.Frag} {H:Hp} : ∀ ds:List (List Nat),Dts K H (tsV ds) (ds.map sD)
 | []=>.nil
 | t::ds=>.cons (.str _) (zGS ds)
theorem zTf {K:W.Frag} {H:Hp} {p l:Addr} {us:List V} {ms:List Int} {S k:Int} {Q:VK} (hp:H p=some (.tup [.int (low1 k S),.int (low2 k S)])) (e:H l=some (.lst us)) (al:Al (RT H S) us ms) (hk:k ∈ ms) (q:Q (.bl false) H):zR0 K (.ref p) (.ref l) H Q:=
 ⟨rD S k,ms.map (rD S),.tup (SqT.of hp) (.cons (.int _) (.cons (.int _) .nil)),.lst (SqL.of e) (zVl al),List.mem_map.mpr ⟨k,hk,rfl⟩,zSN S ms,by simp [rD,PyData.canLay0,PyData.canLayAll0],by simp [rD,PyData.depth,PyData.depthAll],q⟩
theorem zPX {K:W.Frag} {H:Hp} {l:Addr} {ds:List (List Nat)} {t:List Nat} {Q:VK} (e:H l=some (.lst (tsV ds))) (ha : ∀ t ∈ ds,Asc t) (hm:t ∈ ds) (q:Q (.bl false) H):zR0 K (.str (T t)) (.ref l) H Q:=
 ⟨sD t,ds.map sD,.str _,.lst (SqL.of e) (zGS ds),List.mem_map.mpr ⟨t,hm,rfl⟩,zQF ds ha,by have:=ok_T (ha t hm);simp [sD,PyData.canLay0,this],by simp [sD,PyData.depth],q⟩
theorem zRN {K : PySem.W.Frag} {H : Hp} {o cN cW cC : Addr} {wd : Int} {f : Nat} {x : Str} {st : Bool} {d : Fd} {v : V} {ld rs : List Nat} {σ : St} {E : XK} {ta : TE} {t : TA} {Q : VK} (F : FdAt K H o cN cW cC wd f x st d) (W : VlA H v d ld rs) (nw : (st && decide (wd < ((ld ++ rs).length : Int))) = false)
    (hta : ∀ Q' : VK, Q' (.ref o) H → ta σ H Q') (ht : ∀ Q' : List V → Hp → Prop, Q' [.str (T (nfil ld (ld ++ rs) wd f x))] H → t σ H Q') (q : ∀ y H', Same H H' → (∀ Q' : VK, Q' (.bl false) H' → zR0 K v y H' Q') → Q y H') :
    tOrE (zLP cN "values_for" (zCL K cN) [] E ta t) (tOrE (zLP cW "values_for" (zCT K cW) [] E ta t) (zLP cC "values_for" (zCD K cC) [] E ta t)) σ H Q := by
  obtain ⟨l1, l2, a1, a2⟩ := W.ok F.okS
  obtain ⟨_, _, _, sx, w0, w1⟩ := F.bd
  cases W with
  | @num p fg pl b sn z m pt wy k hv hp lim =>
    subst hv
    cases F with
    | num F ok =>
      obtain ⟨fa, fl⟩ := zJo sx w0 w1 ok.f l1 l2 a1 a2
      refine zH2 (zJ0 (hta _ (zHh (zND F (by decide +kernel) (by decide +kernel)) (ht _ ?_))))
      refine ⟨o, _, _, _, _, _, _, _, _, _, _, _, _, _, rfl, F, ok, fa, fl, fun l H' us ms g e pm _ al => q _ _ g fun Q' q' => zTf (g.at hp) e al (pm.mem_iff.mpr ?_) q'⟩
      have ci := zS8 (f := f) (sn := sn) (bl := decide (k < 0)) sx w1 rfl nw
      have nw' := zPD ok lim
      rw [zMF] at nw'
      unfold nks
      rw [List.mem_append]
      by_cases hk : k < 0
      · rw [decide_eq_true hk] at ci nw' ⊢
        exact .inr (List.mem_filterMap.mpr ⟨_, ci, nw'⟩)
      · rw [decide_eq_false hk] at ci nw' ⊢
        exact .inl (List.mem_filterMap.mpr ⟨_, ci, nw'⟩)
  | @word sg lo hi t hv iw =>
    subst hv
    cases F with
    | word F ok =>
      obtain ⟨fa, fl⟩ := zJo sx w0 w1 ok.f l1 l2 a1 a2
      refine zFC (zH2 (zJ0 (hta _ (zHh (zM0 F (by decide +kernel) (by decide +kernel) (by decide +kernel) (by decide +kernel)) (ht _ ?_)))))
      refine ⟨o, _, _, _, _, _, _, _, _, rfl, F, ok.x, w0, w1, by omega, fun l H' ds g e pm => q _ _ g fun Q' q' => zPX e (fun u hu => ?_) (pm.mem_iff.mpr ?_) q'⟩
      · exact ((zOA w1).2 u (List.mem_filter.mp (pm.mem_iff.mp hu)).1).2 fa
      · exact List.mem_filter.mpr ⟨zPw ok.x w1 nw, decide_eq_true iw⟩
  | @cho ns t hv hm =>
    subst hv
    cases F with
    | cho F e0 ok =>
      obtain ⟨fa, fl⟩ := zJo sx w0 w1 ok.f l1 l2 a1 a2
      refine zFC (zFC (zJ0 (hta _ (zHh (zNX F (by decide +kernel) (by decide +kernel)) (ht _ ?_)))))
      refine ⟨o, _, _, _, _, _, _, _, rfl, F, e0, by have := ok.n2; omega, ok.x, w0, w1, by omega, fun l H' g e => q _ _ g fun Q' q' => zPX e (fun u hu => ok.ta u (List.mem_filter.mp hu).1) (List.mem_filter.mpr ⟨hm, decide_eq_true (zPw ok.x w1 nw)⟩) q'⟩
theorem zKd {K:W.Frag} {H:Hp} {Q:VK} {a b:Addr} {x y:V} {xs ys:List V} (h1:H a=some (.tup (x::xs))) (h2:H b=some (.tup (y::ys))) (hz:xs.length+ys.length≤900) (q : ∀ p H',Same H H'→H' p=some (.tup (x::xs++y::ys))→Q (.ref p) H'):zRz K (.ref a) (.ref b) H Q:=
 ⟨a,b,_,_,rfl,rfl,SqT.of h1,SqT.of h2,(by intro h;cases h),small (by rw [List.length_cons,List.length_cons];omega),(fun h=>by cases h),fun _ p n=>q p _ (zAq (Same.refl _) n) zAU⟩
structure IsF (K:W.Frag) (c cN cW cC cF:Addr) (b1 b2 b3:Bool):Prop where
 cl:Cls K c
 ha:W.findIn K (.ref c) "__class__" = some (some (.builtin "object.__class__"))
 hn:W.specialIn K (.builtin "object.__class__") "__get__" = some (some (.builtin "getset_descriptor.__get__"))
 ht:W.takesIn K (.builtin "object.__class__")=some true
 hm:W.mroIn K c (.type "object")=some true
 k1:W.kitOne K (.ref c) (.ref cN)=some b1
 k2:W.kitOne K (.ref c) (.ref cW)=some b2
 k3:W.kitOne K (.ref c) (.ref cC)=some b3
 k4:W.kitOne K (.ref c) (.ref cF)=some true
theorem IsF.ty {K:W.Frag} {c cN cW cC cF o:Addr} {b1 b2 b3:Bool} {H:Hp} {wd:Int} {f:Nat} {x:Str} {st:Bool} {more:List (Str × V)} (n:IsF K c cN cW cC cF b1 b2 b3) (F:zAZ K H o c wd f x st more):TyOf K H (.ref o) (.ref c):=let ⟨_,e⟩:=F.at_;.ins e n.cl n.ha n.hn n.ht n.hm
def zE9 (K:W.Frag):Sp:=fun vs H Q _=>∃ i:Int,vs=[.int i]∧Q (.bl true) H
theorem zTB {K:W.Frag} {i:Int} {H:Hp} {Q:VK} {E:XK} (q:Q (.bl true) H):zE9 K ([.int i]++[]) H Q E:=⟨i,rfl,q⟩
local macro_rules | `(tactic| walk_at "rdc")=>`(tactic| with_reducible refine zTB ?_)
theorem zLU {f:Addr} {fd:FuncData} (F:Fun K "_law_whole" "_law_whole" zDd f fd) (B:Blt mg):FnOk P w K mg base CX0 1 f fd ["_law_thing"] (zE9 K):=by
 refine F.ok zMW (fun vs H Q E h=>?_) (fun cdv A outer s H vs Q E hr h=>?_)
 ·obtain ⟨i,rfl,q⟩:=h
  rfl
 obtain ⟨i,rfl,q⟩:=h
 refine ⟨_,zAI (zAQ (zJk (zAO zCY B.z_isinstance rfl zA7 (zAA (pv 0) (zAA (zGJ rfl B.z_int zSq (v:=.ty "int") rfl) (zAH)))) (zJ2 (zSz (zAO zCY B.z_isinstance rfl zA7 (zAA (pv 0) (zAA (zGJ rfl B.z_bool zM7 (v:=.ty "bool") rfl) (zAH)))))))),?_⟩
 walk_at "st"
 walk_at "rd"
 exact q
def knd:Fd→Nat
 | .num .. => 0
 | .word .. => 1
 | .cho .. => 2
def fld (wd:Int) (f:Nat) (x:Str) (st:Bool):Fd→List PyData
 | .num fg pl b sn z m pt wy=>[.str "number", .int fg,.int pl,.int b,.str sn,.int z,sD [m],sD [pt],.str wy,.int wd,sD [f],.str x,.bool st]
 | .word sg lo hi=>[.str "word", sD sg,.int lo,.int hi,.int wd,sD [f],.str x,.bool st]
 | .cho ns=>[.str "choice", .list (ns.map sD),.int wd,sD [f],.str x,.bool st]
theorem zLm {wd : Int} {f : Nat} {x : Str} {st : Bool} {d : Fd} (o : okS wd f x d) : (PyData.list (fld wd f x st d)).canLay0 = true ∧ (PyData.list (fld wd f x st d)).depth ≤ 20 := by
  have one : ∀ {c : Nat}, c < 127 → PyData.strOk (T [c]) = true := fun h => ok_T (Asc.one h)
  have si : ∀ {y : Str}, zK5 y → PyData.strOk y = true := fun h => by rcases h with (rfl | rfl | rfl) | rfl <;> decide +kernel
  have k1 : PyData.strOk "number" = true := by decide +kernel
  have k2 : PyData.strOk "word" = true := by decide +kernel
  have k3 : PyData.strOk "choice" = true := by decide +kernel
  cases d with
  | num fg pl b sn z m pt wy =>
    have ok : NumS fg pl b sn z m pt wy wd f x := o
    have s1 : PyData.strOk sn = true := by rcases ok.sn with rfl | rfl | rfl | rfl | rfl <;> decide +kernel
    have s2 : PyData.strOk wy = true := by rcases ok.wy with rfl | rfl | rfl | rfl | rfl <;> decide +kernel
    exact ⟨by simp [fld, sD, PyData.canLay0, PyData.canLayAll0, s1, s2, k1, one ok.m, one ok.pt, one ok.f, si ok.x], by simp [fld, sD, PyData.depth, PyData.depthAll]⟩
  | word sg lo hi =>
    have ok : WdS sg lo hi wd f x := o
    exact ⟨by simp [fld, sD, PyData.canLay0, PyData.canLayAll0, k2, ok_T ok.sa, one ok.f, si (.inl ok.x)], by simp [fld, sD, PyData.depth, PyData.depthAll]⟩
  | cho ns =>
    have ok : ChS ns wd f x := o
    have dp : ∀ l : List (List Nat), PyData.depthAll (l.map sD) ≤ 1 := fun l => by
      induction l with
      | nil => simp [PyData.depthAll]
      | cons t l ih => simp only [List.map_cons, PyData.depthAll, sD, PyData.depth] at *; omega
    have d1 := dp ns
    exact ⟨by simp [fld, sD, PyData.canLay0, PyData.canLayAll0, k3, zQF ns ok.ta, one ok.f, si (.inl ok.x)], by simp only [fld, sD, PyData.depth, PyData.depthAll]; omega⟩
theorem zNZ {K:W.Frag} {H:Hp} {p:Addr} {wd:Int} {f:Nat} {x:Str} {st:Bool} {d:Fd} {Q:VK} (S:SpAt H p wd f x st d) (q : ∀ l H',Same H H'→Dt K H' (.ref l) (.list (fld wd f x st d))→Q (.ref l) H'):zNR K [.ref p] H Q:=by
 cases S with
 | num e ok=>exact ⟨p,_,rfl,.inr (SqT.of e),fun l hl=>q l _ (zAq (Same.refl _) hl) (.lst (SqL.of zAU) (by repeat' (first | exact .nil | refine .cons (by first | exact .str _ | exact .int _ | exact .bl _ | exact .lst (SqL.of (by assumption)) (zGS _)) ?_)))⟩
 | word e ok=>exact ⟨p,_,rfl,.inr (SqT.of e),fun l hl=>q l _ (zAq (Same.refl _) hl) (.lst (SqL.of zAU) (by repeat' (first | exact .nil | refine .cons (by first | exact .str _ | exact .int _ | exact .bl _ | exact .lst (SqL.of (by assumption)) (zGS _)) ?_)))⟩
 | cho e eL ok=>exact ⟨p,_,rfl,.inr (SqT.of e),fun l hl=>q l _ (zAq (Same.refl _) hl) (.lst (SqL.of zAU) (.cons (.str _) (.cons (.lst (SqL.of ((zAq (Same.refl _) hl).at eL)) (zGS _)) (by repeat' (first | exact .nil | refine .cons (by first | exact .str _ | exact .int _ | exact .bl _ | exact .lst (SqL.of (by assumption)) (zGS _)) ?_)))))⟩
def txD (wd:Int) (f:Nat) (x:Str) (st:Bool) (ld rs:List Nat):PyData:=if (st && decide (wd < ((ld++rs).length:Int)))=true then .none else .str (T (nfil ld (ld++rs) wd f x))
theorem zRk {K:W.Frag} {H:Hp} {wd:Int} {f:Nat} {x:Str} {st:Bool} {ld rs:List Nat}:Dt K H (txV wd f x st ld rs) (txD wd f x st ld rs):=by
 unfold txV txD
 split
 ·exact .non
 ·exact .str _
theorem zVt {wd:Int} {f:Nat} {x:Str} {st:Bool} {ld rs:List Nat} (h:Asc (nfil ld (ld++rs) wd f x)):(txD wd f x st ld rs).canLay0=true∧(txD wd f x st ld rs).depth≤20:=by
 unfold txD
 split
 ·exact ⟨by simp [PyData.canLay0],by simp [PyData.depth]⟩
 ·have:=ok_T h;exact ⟨by simp [PyData.canLay0,this],by simp [PyData.depth]⟩
theorem zVO {K : W.Frag} {H : Hp} {p : Addr} {wd : Int} {f : Nat} {x : Str} {st : Bool} {d : Fd} {n : Int} {σ : St} {tt ts : TE} {R : VK} (S : SpAt H p wd f x st d) (w0 : 0 ≤ n) (w1 : n ≤ 40)
    (ht : ∀ H1 (Q' : VK), Same H H1 → (∀ t H', Same H1 H' → H' t = some (.tup [.int n]) → Q' (.ref t) H') → tt σ H1 Q') (hs : ∀ H1 (Q' : VK), Same H H1 → rSlT K (.ref p) (some (-3)) none H1 Q' → ts σ H1 Q')
    (q : ∀ p' H', Same H H' → SpAt H' p' n f x st d → R (.ref p') H') : rSlT K (.ref p) none (some (-4)) H fun a H1 => tt σ H1 fun y H2 => zRz K a y H2 fun z H3 => ts σ H3 fun u H4 => zRz K z u H4 R := by
  cases S with
  | @num fg pl b sn z m pt wy e ok =>
    refine zKU (n := 13) e rfl (by decide) fun p1 H1 g1 e1 => ht _ _ g1 fun t H2 g2 e2 => ?_
    have e1' : H2 p1 = some (.tup [.str "number", .int fg, .int pl, .int b, .str sn, .int z, .str (T [m]), .str (T [pt]), .str wy]) := g2.at e1
    refine zKd e1' e2 (by simp) fun p3 H3 g3 e3 => hs _ _ (g1.trans (g2.trans g3)) (zKU (n := 13) (g3.at (g2.at (g1.at e))) rfl (by decide) fun p4 H4 g4 e4 => ?_)
    have e4' : H4 p4 = some (.tup [.str (T [f]), .str x, .bl st]) := e4
    exact zKd (g4.at e3) e4' (by simp) fun p5 H5 g5 e5 => q _ _ (g1.trans (g2.trans (g3.trans (g4.trans g5)))) (.num e5 { ok with wd1 := w0, wd2 := w1 })
  | @word sg lo hi e ok =>
    refine zKU (n := 8) e rfl (by decide) fun p1 H1 g1 e1 => ht _ _ g1 fun t H2 g2 e2 => ?_
    have e1' : H2 p1 = some (.tup [.str "word", .str (T sg), .int lo, .int hi]) := g2.at e1
    refine zKd e1' e2 (by simp) fun p3 H3 g3 e3 => hs _ _ (g1.trans (g2.trans g3)) (zKU (n := 8) (g3.at (g2.at (g1.at e))) rfl (by decide) fun p4 H4 g4 e4 => ?_)
    have e4' : H4 p4 = some (.tup [.str (T [f]), .str x, .bl st]) := e4
    exact zKd (g4.at e3) e4' (by simp) fun p5 H5 g5 e5 => q _ _ (g1.trans (g2.trans (g3.trans (g4.trans g5)))) (.word e5 { ok with wd1 := w0, wd2 := w1 })
  | @cho L ns e eL ok =>
    refine zKU (n := 6) e rfl (by decide) fun p1 H1 g1 e1 => ht _ _ g1 fun t H2 g2 e2 => ?_
    have e1' : H2 p1 = some (.tup [.str "choice", .ref L]) := g2.at e1
    refine zKd e1' e2 (by simp) fun p3 H3 g3 e3 => hs _ _ (g1.trans (g2.trans g3)) (zKU (n := 6) (g3.at (g2.at (g1.at e))) rfl (by decide) fun p4 H4 g4 e4 => ?_)
    have e4' : H4 p4 = some (.tup [.str (T [f]), .str x, .bl st]) := e4
    exact zKd (g4.at e3) e4' (by simp) fun p5 H5 g5 e5 => q _ _ (g1.trans (g2.trans (g3.trans (g4.trans g5)))) (.cho e5 (g5.at (g4.at (g3.at (g2.at (g1.at eL))))) { ok with wd1 := w0, wd2 := w1 })
def zDP (K:W.Frag) (cN cW cC:Addr):Sp:=fun vs H Q _=>∃ (o p:Addr) (wd:Int) (f:Nat) (x:Str) (st:Bool) (d:Fd) (wd':Int) (f':Nat) (x':Str) (st':Bool) (d':Fd),vs=[.ref o,.ref p]∧FdAt K H o cN cW cC wd f x st d∧SpAt H p wd' f' x' st' d'∧knd d=knd d' ∧ ∀ l H',Same H H'→Dt K H' (.ref l) (.list (fld wd f x st d))→Q (.ref l) H'
theorem zG2 {K:W.Frag} {cN cW cC o p:Addr} {wd:Int} {f:Nat} {x:Str} {st:Bool} {d:Fd} {wd':Int} {f':Nat} {x':Str} {st':Bool} {d':Fd} {H:Hp} {Q:VK} {E:XK} (h1:FdAt K H o cN cW cC wd f x st d) (h2:SpAt H p wd' f' x' st' d') (h3:knd d=knd d') (q : ∀ l H',Same H H'→Dt K H' (.ref l) (.list (fld wd f x st d))→Q (.ref l) H'):zDP K cN cW cC ([.ref o,.ref p]++[]) H Q E:=⟨o,p,wd,f,x,st,d,wd',f',x',st',d',rfl,h1,h2,h3,q⟩
theorem zKt {f : Addr} {fd : FuncData} (F : Fun K "_law_fields" "_law_fields" zDG f fd) (B : Blt mg) {zAB : Addr} {zAD : Addr} {zAC : Addr} (zNU : Has P w K mg base "_law_whole" 1 ["_law_thing"] (zE9 K)){zBS : Addr} (zBW : mg "NumberForm" = some (.ref zAB)) (zBz : mg "WordForm" = some (.ref zAD)) (zBU : mg "ChoiceForm" = some (.ref zAC)) (zEh : mg "Form" = some (.ref zBS)) (isn : IsF K zAB zAB zAD zAC zBS true false false) (isw : IsF K zAD zAB zAD zAC zBS false true false) (isc : IsF K zAC zAB zAD zAC zBS false false true) : FnOk P w K mg base CX0 2 f fd ["_law_form_here", "_law_spec_here"] (zDP K zAB zAD zAC) := by
  refine F.ok zFp (fun vs H Q E h => ?_) (fun cdv A outer s H vs Q E hr h => ?_)
  · obtain ⟨o, p, wd, f, x, st, d, wd', f', x', st', d', rfl, D0, S0, hk, q⟩ := h
    rfl
  obtain ⟨o, p, wd, f, x, st, d, wd', f', x', st', d', rfl, D0, S0, hk, q⟩ := h
  refine ⟨_, zAE (zAP (i := 2) zFp.nd rfl (Or.inl rfl) (zBE (zAA (zAg (pv 0) rfl) (zAA (zAg (pv 0) rfl) (zAA (zAg (pv 0) rfl) (zAA (zAg (pv 0) rfl) (zAH)))))))
    (zAE (zBC (PW.pt (zHQ (zCo (zB2 (zAO zCY B.z_isinstance rfl zA7 (zAA (pv 0) (zAA (zDK rfl zEh (v := .ref zBS) rfl) (zAH)))))) (zHQ (zCo (zB2 (zAO zCY B.z_isinstance rfl zA7 (zAA (zAg (pv 0) rfl) (zAA (zGJ rfl B.z_bool zM7 (v := .ty "bool") rfl) (zAH)))))) (zEw (zCo (zB2 (zAJ zNU hr rfl (zAA (zAg (pv 0) rfl) (zAH))))))))) (zAI (zAQ (zBE (zAH)))) (zAW))
    (zAE (zBC (PW.pt (zGR (zAT zCB (zAX zAa (pv 1) (zAG) (fun _ _ => rfl)) (zAe) (zAV _)) (zD4 (zB2 (zAO zCY B.z_isinstance rfl zA7 (zAA (pv 0) (zAA (zDK rfl zBz (v := .ref zAD) rfl) (zAH)))))))) (zAI (zAQ (zAS zKZ (zBE (zAA (zAe) (zAA (zAg (pv 0) rfl) (zAA (zAg (pv 0) rfl) (zAA (zAg (pv 0) rfl) (zAH)))))) (pv 2)))) (zAW))
    (zAE (zBC (PW.pt (zGR (zAT zCB (zAX zAa (pv 1) (zAG) (fun _ _ => rfl)) (zAe) (zAV _)) (zD4 (zB2 (zAO zCY B.z_isinstance rfl zA7 (zAA (pv 0) (zAA (zDK rfl zBU (v := .ref zAC) rfl) (zAH)))))))) (zAI (zAQ (zAS zKZ (zBE (zAA (zAe) (zAA (zAg (pv 0) rfl) (zAH)))) (pv 2)))) (zAW))
    (zAE (zBC (PW.pt (zHQ (zAT zJZ (zAX zAa (pv 1) (zAG) (fun _ _ => rfl)) (zAe) (zAV _)) (zEw (zCo (zB2 (zAO zCY B.z_isinstance rfl zA7 (zAA (pv 0) (zAA (zDK rfl zBW (v := .ref zAB) rfl) (zAH))))))))) (zAI (zAQ (zBE (zAH)))) (zAW))
    (zAE (zAP (i := 3) zFp.nd rfl (Or.inl rfl) (zBE (zAA (zAe) (zAA (zAg (pv 0) rfl) (zAA (zAg (pv 0) rfl) (zAA (zAg (pv 0) rfl) (zAA (zAg (pv 0) rfl) (zAA (zAg (pv 0) rfl) (zAA (zAg (pv 0) rfl) (zAA (zAg (pv 0) rfl) (zAH) zAf) zAf) zAf) zAf) zAf) zAf) zAf) zA2)))
    (zAI (zAQ (zAS zKZ (zAS zKZ (pv 3) (zBE (zAA (zAg (pv 0) rfl) (zAH)))) (pv 2))))))))), ?_⟩
  walk_at "st"
  cases D0 with
  | @num fg pl b sn z m pt wy F0 ok =>
    cases S0 with
    | num e0 ok0 =>
      walk_at "rd"
      rename_i p1 H1 g1 n1 e1
      have F1 := F0.same g1
      have e01 := g1.at e0
      refine zF8 (isn.ty F1) ⟨"", .inr ⟨_, rfl⟩⟩ isn.k4 ?_
      walk_at "rd"
      refine zF8 (isn.ty F1) ⟨"", .inr ⟨_, rfl⟩⟩ isn.k1 ?_
      walk_at "rd"
      rename_i p2 H2 g2 n2 e2 p3 H3 g3 n3 e3
      refine zQZ (g3.at e2) e3 (Nat.le_of_lt (zCF (by simp))) fun p4 H4 g4 e4 => ?_
      have e14 := g4.at (g3.at (g2.at e1))
      walk_at "rd"
      refine zQZ e4 e14 (Nat.le_of_lt (zCF (by simp))) fun p5 H5 g5 e5 => ?_
      have e5' : H5 p5 = some (.lst [.str "number", .int fg, .int pl, .int b, .str sn, .int z, .str (T [m]), .str (T [pt]), .str wy, .int wd, .str (T [f]), .str x, .bl st]) := e5
      exact q _ _ (by walk_at "sm") (.lst (SqL.of e5') (by repeat' (first | exact .nil | refine .cons (by first | exact .str _ | exact .int _ | exact .bl _ | exact .lst (SqL.of (by assumption)) (zGS _)) ?_)))
    | word e0 ok0 => exact absurd hk (fun h => by simp [knd] at h)
    | cho e0 eL ok0 => exact absurd hk (fun h => by simp [knd] at h)
  | @word sg lo hi F0 ok =>
    cases S0 with
    | num e0 ok0 => exact absurd hk (fun h => by simp [knd] at h)
    | word e0 ok0 =>
      walk_at "rd"
      rename_i p1 H1 g1 n1 e1
      have F1 := F0.same g1
      have e01 := g1.at e0
      refine zF8 (isw.ty F1) ⟨"", .inr ⟨_, rfl⟩⟩ isw.k4 ?_
      walk_at "rd"
      refine zF8 (isw.ty F1) ⟨"", .inr ⟨_, rfl⟩⟩ isw.k2 ?_
      walk_at "rd"
      rename_i p2 H2 g2 n2 e2
      refine zQZ e2 (g2.at e1) (Nat.le_of_lt (zCF (by simp))) fun p5 H5 g5 e5 => ?_
      have e5' : H5 p5 = some (.lst [.str "word", .str (T sg), .int lo, .int hi, .int wd, .str (T [f]), .str x, .bl st]) := e5
      exact q _ _ (by walk_at "sm") (.lst (SqL.of e5') (by repeat' (first | exact .nil | refine .cons (by first | exact .str _ | exact .int _ | exact .bl _ | exact .lst (SqL.of (by assumption)) (zGS _)) ?_)))
    | cho e0 eL ok0 => exact absurd hk (fun h => by simp [knd] at h)
  | @cho L ns F0 eN ok =>
    cases S0 with
    | num e0 ok0 => exact absurd hk (fun h => by simp [knd] at h)
    | word e0 ok0 => exact absurd hk (fun h => by simp [knd] at h)
    | cho e0 eL ok0 =>
      walk_at "rd"
      rename_i p1 H1 g1 n1 e1
      have F1 := F0.same g1
      have e01 := g1.at e0
      refine zF8 (isc.ty F1) ⟨"", .inr ⟨_, rfl⟩⟩ isc.k4 ?_
      walk_at "rd"
      refine zF8 (isc.ty F1) ⟨"", .inr ⟨_, rfl⟩⟩ isc.k3 ?_
      walk_at "rd"
      rename_i p2 H2 g2 n2 e2
      refine zQZ e2 (g2.at e1) (Nat.le_of_lt (zCF (by simp))) fun p5 H5 g5 e5 => ?_
      have e5' : H5 p5 = some (.lst [.str "choice", .ref L, .int wd, .str (T [f]), .str x, .bl st]) := e5
      have eN5 := g5.at (g2.at (g1.at eN))
      exact q _ _ (by walk_at "sm") (.lst (SqL.of e5') (by repeat' (first | exact .nil | refine .cons (by first | exact .str _ | exact .int _ | exact .bl _ | exact .lst (SqL.of (by assumption)) (zGS _)) ?_)))
def zGM (K:W.Frag) (cN cW cC:Addr):Sp:=fun vs H Q _=>∃ (o:Addr) (v:V) (wd:Int) (f:Nat) (x:Str) (st:Bool) (d:Fd) (ld rs:List Nat),vs=[.ref o,v]∧FdAt K H o cN cW cC wd f x st d∧VlA H v d ld rs ∧ ∀ H',Same H H'→Q (txV wd f x st ld rs) H'
theorem zSU {K:W.Frag} {cN cW cC o:Addr} {v:V} {wd:Int} {f:Nat} {x:Str} {st:Bool} {d:Fd} {ld rs:List Nat} {H:Hp} {Q:VK} {E:XK} (h1:FdAt K H o cN cW cC wd f x st d) (h2:VlA H v d ld rs) (q : ∀ H',Same H H'→Q (txV wd f x st ld rs) H'):zGM K cN cW cC ([.ref o,v]++[]) H Q E:=⟨o,v,wd,f,x,st,d,ld,rs,rfl,h1,h2,q⟩
theorem zMi {f : Addr} {fd : FuncData} (F : Fun K "_law_told" "_law_told" zEH f fd) (B : Blt mg) {zAB : Addr} {zAD : Addr} {zAC : Addr} {zA1 : Addr} (zAM : Cls K zAB) (zAb : Cls K zAD) (zAY : Cls K zAC) (zFk : mg "TooWide" = some (.ref zA1)) (zJD : HasM P w K mg base (CXE P w) zAB "put" 6 ["self", "value"] (zGB K zAB zAD zAC zA1)) (zKJ : HasM P w K mg base (CXE P w) zAD "put" 6 ["self", "value"] (zGB K zAB zAD zAC zA1)) (zJB : HasM P w K mg base (CXE P w) zAC "put" 6 ["self", "value"] (zGB K zAB zAD zAC zA1))(xw : W.exmOne K (.ref zA1) (.ref zA1) = some true) : FnOk P w K mg base CX0 7 f fd ["_law_form_here", "_law_value_here"] (zGM K zAB zAD zAC) := by
  refine F.ok zHq (fun vs H Q E h => ?_) (fun cdv A outer s H vs Q E hr h => ?_)
  · obtain ⟨o, v, wd, f, x, st, d, ld, rs, rfl, D0, V0, q⟩ := h
    rfl
  obtain ⟨o, v, wd, f, x, st, d, ld, rs, rfl, D0, V0, q⟩ := h
  refine ⟨_, zAE (zAP (i := 2) zHq.nd rfl (Or.inl rfl) (zI5))
    (zAE (zPk rfl rfl (fun _ _ _ => zAI (zAP (i := 2) zHq.nd rfl (Or.inl rfl) (zD5 (zKs zJD zAM hr (pv 0) (zAA (pv 1) (zAH))) (zD5 (zKs zKJ zAb hr (pv 0) (zAA (pv 1) (zAH))) (zKs zJB zAY hr (pv 0) (zAA (pv 1) (zAH))))))) (zUD rfl zFk (fun _ => zAI (zAQ (zI5))) (zVm)))
    (zAI (zAQ (pv 2)))), ?_⟩
  walk_at "st"
  obtain ⟨_, _, _, sx, w0, w1⟩ := D0.bd
  have co := zWq D0 V0
  unfold txV at q
  walk_at "rd"
  refine zSd [some (.ref o), some v, some .non] ?_
  cases D0 with
  | num F0 ok =>
    walk_at "rd"
    refine zH2 ?_
    walk_at "rd"
    refine ⟨o, v, wd, f, x, st, _, _, rfl, co, w1, fun h H1 g1 => ?_, fun h H1 g1 => ⟨_, rfl, r_Hc xw ?_⟩⟩
    · walk_at "rd"
      have q' := q _ g1
      rw [if_neg (by rw [h]; decide)] at q'
      exact q'
    · walk_at "rd"
      have q' := q _ g1
      rw [if_pos h] at q'
      exact q'
  | word F0 ok =>
    walk_at "rd"
    refine zFC (zH2 ?_)
    walk_at "rd"
    refine ⟨o, v, wd, f, x, st, _, _, rfl, co, w1, fun h H1 g1 => ?_, fun h H1 g1 => ⟨_, rfl, r_Hc xw ?_⟩⟩
    · walk_at "rd"
      have q' := q _ g1
      rw [if_neg (by rw [h]; decide)] at q'
      exact q'
    · walk_at "rd"
      have q' := q _ g1
      rw [if_pos h] at q'
      exact q'
  | cho F0 e ok =>
    walk_at "rd"
    refine zFC (zFC ?_)
    walk_at "rd"
    refine ⟨o, v, wd, f, x, st, _, _, rfl, co, w1, fun h H1 g1 => ?_, fun h H1 g1 => ⟨_, rfl, r_Hc xw ?_⟩⟩
    · walk_at "rd"
      have q' := q _ g1
      rw [if_neg (by rw [h]; decide)] at q'
      exact q'
    · walk_at "rd"
      have q' := q _ g1
      rw [if_pos h] at q'
      exact q'
def zE0 (K:W.Frag):Sp:=fun vs H Q _=>∃ (p:Addr) (wd:Int) (f:Nat) (x:Str) (st:Bool) (d:Fd),vs=[.ref p]∧SpAt H p wd f x st d ∧ ∀ H',Same H H'→Q (.bl true) H'
theorem zUY {K:W.Frag} {p:Addr} {wd:Int} {f:Nat} {x:Str} {st:Bool} {d:Fd} {H:Hp} {Q:VK} {E:XK} (h1:SpAt H p wd f x st d) (q : ∀ H',Same H H'→Q (.bl true) H'):zE0 K ([.ref p]++[]) H Q E:=⟨p,wd,f,x,st,d,rfl,h1,q⟩
theorem zLk {f : Addr} {fd : FuncData} (F : Fun K "_law_plain" "_law_plain" zDf f fd) (B : Blt mg) {zAC : Addr} {zAB : Addr} {zAD : Addr} (zBU : mg "ChoiceForm" = some (.ref zAC)) (zBW : mg "NumberForm" = some (.ref zAB)) (zBz : mg "WordForm" = some (.ref zAD)) (zCg : Has P w K mg base "_law_fields" 2 ["_law_form_here", "_law_spec_here"] (zDP K zAB zAD zAC)) (zGX : zR3 P w K mg base CX0 zAC 2 ["self", "names", "width", "fill", "side", "strict"] [] (kA 2 0 [.inl 0, .inl 1, .inr (.int 0), .inr (.str (T [32])), .inr (.str "left"), .inr (.bl false)]) (zBu K zAC)) (zGb : zR3 P w K mg base CX0 zAB 2 ["self", "figures", "places", "base", "sign", "size", "mark", "point", "way", "width", "fill", "side", "strict"] [] (kA 3 0 [.inl 0, .inl 1, .inl 2, .inr (.int 10), .inr (.str "minus"), .inr (.int 0), .inr (.str (T [44])), .inr (.str (T [46])), .inr (.str "near"), .inr (.int 0), .inr (.str (T [32])), .inr (.str "right"), .inr (.bl false)]) (zBv K zAB)) (zHI : zR3 P w K mg base CX0 zAD 2 ["self", "signs", "least", "most", "width", "fill", "side", "strict"] [] (kA 4 0 [.inl 0, .inl 1, .inl 2, .inl 3, .inr (.int 0), .inr (.str (T [32])), .inr (.str "left"), .inr (.bl false)]) (zB8 K zAD))(clN : Cls K zAB) (naN : zBw K zAB (bns ++ nns)) (clW : Cls K zAD) (naW : zBw K zAD (bns ++ wns)) (clC : Cls K zAC) (naC : zBw K zAC (bns ++ cns)) : FnOk P w K mg base CX0 4 f fd ["_law_spec_here"] (zE0 K) := by
  refine F.ok zDF (fun vs H Q E h => ?_) (fun cdv A outer s H vs Q E hr h => ?_)
  · obtain ⟨p, wd, f, x, st, d, rfl, S0, q⟩ := h
    rfl
  obtain ⟨p, wd, f, x, st, d, rfl, S0, q⟩ := h
  refine ⟨_, zAE (zBC (zAT zCB (zAX zAa (pv 0) (zAG) (fun _ _ => rfl)) (zAe) (zAV _)) (zAE (zAP (i := 1) zDF.nd rfl (Or.inl rfl) (zJ8 zGb zBn hr rfl zBW (zAA (zAX zAa (pv 0) (zAG) (fun _ _ => rfl)) (zAA (zAX zAa (pv 0) (zAG) (fun _ _ => rfl)) (zAH))) (zQQ)))
    (zAE (zAP (i := 2) zDF.nd rfl (Or.inl rfl) (zBE (zAA (zAe) (zAA (zAX zAa (pv 0) (zAG) (fun _ _ => rfl)) (zAA (zAX zAa (pv 0) (zAG) (fun _ _ => rfl)) (zAA (zAG) (zAA (zAe) (zAA (zAG) (zAA (zBt (l := [44]) (by decide +kernel)) (zAA (zBt (l := [46]) (by decide +kernel)) (zAA (zAe) (zAA (zAG) (zAA (zBt (l := [32]) (by decide +kernel)) (zAA (zAe) (zAA (zHt) (zAH) zA2) zA2) zA2) zA2) zA2) zA2) zA2) zA2) zA2) zA2) zBA) zBA) zA2)))
    (zAI (zAQ (zCG (zNu (hu20 hr)) (zAJ zCg hr rfl (zAA (pv 1) (zAA (pv 0) (zAH)))) (pv 2) (zAV _)))))) (zAW))
    (zAE (zBC (zAT zCB (zAX zAa (pv 0) (zAG) (fun _ _ => rfl)) (zAe) (zAV _)) (zAE (zAP (i := 1) zDF.nd rfl (Or.inl rfl) (zJ8 zHI zBn hr rfl zBz (zAA (zAX zAa (pv 0) (zAG) (fun _ _ => rfl)) (zAA (zAX zAa (pv 0) (zAG) (fun _ _ => rfl)) (zAA (zAX zAa (pv 0) (zAG) (fun _ _ => rfl)) (zAH)))) (zQQ)))
    (zAI (zAQ (zCG (zNu (hu20 hr)) (zAJ zCg hr rfl (zAA (pv 1) (zAA (pv 0) (zAH)))) (zBE (zAA (zAe) (zAA (zAX zAa (pv 0) (zAG) (fun _ _ => rfl)) (zAA (zAX zAa (pv 0) (zAG) (fun _ _ => rfl)) (zAA (zAX zAa (pv 0) (zAG) (fun _ _ => rfl)) (zAA (zAG) (zAA (zBt (l := [32]) (by decide +kernel)) (zAA (zAe) (zAA (zHt) (zAH) zA2) zA2) zA2) zA2) zBA) zBA) zBA) zA2)) (zAV _))))) (zAW))
    (zAE (zAP (i := 3) zDF.nd rfl (Or.inl rfl) (zFl zDq rfl B.z_list zIO (zAA (zAX zAa (pv 0) (zAG) (fun _ _ => rfl)) (zAH))))
    (zAE (zAP (i := 1) zDF.nd rfl (Or.inl rfl) (zJ8 zGX zBn hr rfl zBU (zAA (pv 3) (zAH)) (zQQ)))
    (zAE (zFL (zS3 PySem.F.plainAttrs_list PySem.F.slot_list_clear PySem.F.type_list_clear zSK (pv 3)))
    (zAI (zAQ (zCG (zNu (hu20 hr)) (zAJ zCg hr rfl (zAA (pv 1) (zAA (pv 0) (zAH)))) (zBE (zAA (zAe) (zAA (zAX zAa (pv 0) (zAG) (fun _ _ => rfl)) (zAA (zAG) (zAA (zBt (l := [32]) (by decide +kernel)) (zAA (zAe) (zAA (zHt) (zAH)))))))) (zAV _)))))))), ?_⟩
  walk_at "st"
  have S1 := S0
  cases S0 with
  | @num fg pl b sn z m pt wy e ok =>
    walk_at "rd"
    refine zM4 ?_
    walk_at "rd"
    intro o dx no nd ne
    refine ⟨o, dx, fg, pl, 10, "minus", 0, 44, 46, "near", 0, 32, "right", false, rfl, zAU, ?_⟩
    have F1 : zAZ K (upd (upd (upd H dx (.own o)) o (.ins zAB dx [])) o (.ins zAB dx (bfs 0 32 "right" false (zB0 fg pl 10 "minus" 0 44 46 "near")))) o zAB 0 32 "right" false (zB0 fg pl 10 "minus" 0 44 46 "near") := ⟨⟨dx, zAU⟩, clN, naN⟩
    have g3 : Same H (upd (upd (upd H dx (.own o)) o (.ins zAB dx [])) o (.ins zAB dx (bfs 0 32 "right" false (zB0 fg pl 10 "minus" 0 44 46 "near")))) := zAq (zAq (zAq (Same.refl _) nd) no) no
    generalize upd (upd (upd H dx (.own o)) o (.ins zAB dx [])) o (.ins zAB dx (bfs 0 32 "right" false (zB0 fg pl 10 "minus" 0 44 46 "near"))) = H3 at F1 g3 ⊢
    have okp : NumS fg pl 10 "minus" 0 44 46 "near" 0 32 "right" := ⟨ok.fg1, ok.fg2, ok.pl1, ok.pl2, by decide, by decide, .inl rfl, by decide, by decide, by decide, by decide, .inr (.inr (.inr (.inl rfl))), by decide, by decide, by decide, .inl (.inr (.inl rfl))⟩
    have e3 := g3.at e
    refine ⟨rfl, ?_⟩
    walk_at "rd"
    rename_i p4 H4 g4 n4 e4
    refine zG2 (.num (F1.same g4) okp) ((S1.same g3).same g4) rfl fun l H5 g5 d5 => ?_
    obtain ⟨c1, c2⟩ := zLm (st := false) (show okS 0 32 "right" (.num fg pl 10 "minus" 0 44 46 "near") from okp)
    have e45 := g5.at e4
    walk_at "rd"
    exact zRr d5 (.lst (SqL.of e45) (by repeat' (first | exact .nil | refine .cons (by first | exact .str _ | exact .int _ | exact .bl _ | exact .lst (SqL.of (by assumption)) (zGS _)) ?_))) c1 c2 (q _ (by walk_at "sm"))
  | @word sg lo hi e ok =>
    walk_at "rd"
    refine zM4 ?_
    walk_at "rd"
    intro o dx no nd ne
    refine ⟨o, dx, sg, lo, hi, 0, 32, "left", false, rfl, zAU, ?_⟩
    have F1 : zAZ K (upd (upd (upd H dx (.own o)) o (.ins zAD dx [])) o (.ins zAD dx (bfs 0 32 "left" false (zDj sg lo hi)))) o zAD 0 32 "left" false (zDj sg lo hi) := ⟨⟨dx, zAU⟩, clW, naW⟩
    have g3 : Same H (upd (upd (upd H dx (.own o)) o (.ins zAD dx [])) o (.ins zAD dx (bfs 0 32 "left" false (zDj sg lo hi)))) := zAq (zAq (zAq (Same.refl _) nd) no) no
    generalize upd (upd (upd H dx (.own o)) o (.ins zAD dx [])) o (.ins zAD dx (bfs 0 32 "left" false (zDj sg lo hi))) = H3 at F1 g3 ⊢
    have okp : WdS sg lo hi 0 32 "left" := { ok with wd1 := by decide, wd2 := by decide, x := .inl rfl, f := by decide }
    have e3 := g3.at e
    refine ⟨rfl, ?_⟩
    walk_at "rd"
    refine zG2 (.word F1 okp) (S1.same g3) rfl fun l H5 g5 d5 => ?_
    obtain ⟨c1, c2⟩ := zLm (st := false) (show okS 0 32 "left" (.word sg lo hi) from okp)
    have e35 := g5.at e3
    walk_at "rd"
    rename_i p6 H6 g6 n6 e6
    exact zRr (Dt.same g6 d5) (.lst (SqL.of e6) (by repeat' (first | exact .nil | refine .cons (by first | exact .str _ | exact .int _ | exact .bl _ | exact .lst (SqL.of (by assumption)) (zGS _)) ?_))) c1 c2 (q _ (by walk_at "sm"))
  | @cho L ns e eL ok =>
    walk_at "rd"
    rename_i l1 H1 g1 n1 e1
    refine zM4 ?_
    walk_at "rd"
    intro o dx no nd ne
    have g3 : Same H1 (upd (upd H1 dx (.own o)) o (.ins zAC dx [])) := zAq (zAq (Same.refl _) nd) no
    refine ⟨o, dx, l1, ns, 0, 32, "left", false, rfl, zAU, g3.at e1, fun L2 H3 sb n3 e3 eo => ⟨rfl, ?_⟩⟩
    have g13 : Same H1 H3 := fun a u ea => sb a u (fun z => by rw [z, no] at ea; cases ea) (g3.at ea)
    have ho : o ≠ l1 := zVz no e1
    have hL : L2 ≠ l1 := zVz n3 (g3.at e1)
    have okp : ChS ns 0 32 "left" := { ok with wd1 := by decide, wd2 := by decide, x := .inl rfl, f := by decide }
    walk_at "rd"
    refine zTJ (g13.at e1) ?_
    have F1 : FdAt K (upd H3 l1 (.lst [])) o zAB zAD zAC 0 32 "left" false (.cho ns) := .cho ⟨⟨dx, by rw [zBV ho]; exact eo⟩, clC, naC⟩ (by rw [zBV hL]; exact e3) okp
    have g4 : Same H (upd H3 l1 (.lst [])) := zAq (g1.trans g13) n1
    generalize upd H3 l1 (.lst []) = H4 at F1 g4 ⊢
    have e4 := g4.at e
    have eL4 := g4.at eL
    walk_at "rd"
    refine zG2 F1 (S1.same g4) rfl fun l H5 g5 d5 => ?_
    obtain ⟨c1, c2⟩ := zLm (st := false) (show okS 0 32 "left" (.cho ns) from okp)
    have e45 := g5.at e4
    have eL5 := g5.at eL4
    clear e e1 e4 eL eL4
    walk_at "rd"
    rename_i p6 H6 g6 n6 e6
    have eL6 := g6.at eL5
    exact zRr (Dt.same g6 d5) (.lst (SqL.of e6) (by repeat' (first | exact .nil | refine .cons (by first | exact .str _ | exact .int _ | exact .bl _ | exact .lst (SqL.of (by assumption)) (zGS _)) ?_))) c1 c2 (q _ (g4.trans (g5.trans g6)))
theorem zUG {H:Hp} {Q:VK} (q:Q (.bl false) H):zRX .non .non H Q:=⟨rfl,by rw [decide_eq_true rfl];exact q⟩
theorem zUV {x:Str} {H:Hp} {Q:VK} (q:Q (.bl true) H):zRX (.str x) .non H Q:=⟨rfl,by rw [decide_eq_false (fun z=>nomatch z)];exact q⟩
theorem len0 {α:Type} {P:List α→Prop} (h:P []) : ∀ us:List α,us.length=0→P us
 | [],_=>h
theorem lenS {α:Type} {P:List α→Prop} {n:Nat} (h : ∀ (a:α) (us:List α),us.length=n→P (a::us)) : ∀ us:List α,us.length=n+1→P us
 | a::us,e=>h a us (Nat.succ.inj e)
theorem len2 {α β:Type} {P:List α→List β→Prop} {a b:Nat} (h : ∀ us:List α,us.length=a → ∀ ws:List β,ws.length=b→P us ws) : ∀ (us:List α) (ws:List β),us.length=a→ws.length=b→P us ws:=fun us ws h1 h2=>h us h1 ws h2
def zNv (K:W.Frag):Sp:=fun vs H Q _=>∃ (a:Addr) (ns:List Int),vs=[.ref a]∧SqL K H a (ns.map V.int)∧ns.length≤63 ∧ ∀ H',Q (.bl true) H'
theorem zVi {f:Addr} {fd:FuncData} (F:Fun K "law" "law" zLF f fd) (B:Blt mg) {zAB:Addr} {zAD:Addr} {zAC:Addr} (zAM:Cls K zAB) (zAb:Cls K zAD) (zAY:Cls K zAC) (zOP:Has P w K mg base "_law_spec" 4 ["_law_script", "_law_small"] (zGC K)) (zOe:Has P w K mg base "_law_form" 5 ["_law_spec_here"] (zGE K zAB zAD zAC)) (zAN:Has P w K mg base "_law_pick" 1 ["_law_cell", "_law_salt", "_law_many"] (zBa K)) (zCn:Has P w K mg base "_law_cell_at" 1 ["_law_script", "_law_k"] (zCv K)) (zM9:Has P w K mg base "_law_value" 3 ["_law_cell", "_law_spec_here"] (zEs K)) (zIT:Has P w K mg base "_law_text" 5 ["_law_value_here", "_law_spec_here"] (zF7 K)) (zCg:Has P w K mg base "_law_fields" 2 ["_law_form_here", "_law_spec_here"] (zDP K zAB zAD zAC)) (zNH:Has P w K mg base "_law_plain" 4 ["_law_spec_here"] (zE0 K)) (zKY:Has P w K mg base "_law_told" 7 ["_law_form_here", "_law_value_here"] (zGM K zAB zAD zAC)) (zD6:HasM P w K mg base CX0 zAB "widened" 4 ["self", "width"] (zCb K zAB)) (zE6:HasM P w K mg base CX0 zAD "widened" 4 ["self", "width"] (zC3 K zAD)) (zD8:HasM P w K mg base CX0 zAC "widened" 4 ["self", "width"] (zCe K zAC)) (zFr:HasM P w K mg base CX0 zAB "values_for" 7 ["self", "text"] (zCL K zAB)) (zGf:HasM P w K mg base CX0 zAD "values_for" 5 ["self", "text"] (zCT K zAD)) (zFv:HasM P w K mg base CX0 zAC "values_for" 5 ["self", "text"] (zCD K zAC)){zBS:Addr} (zEh:mg "Form" = some (.ref zBS)) (isn:IsF K zAB zAB zAD zAC zBS true false false) (isw:IsF K zAD zAB zAD zAC zBS false true false) (isc:IsF K zAC zAB zAD zAC zBS false false true):FnOk P w K mg base CX0 8 f fd ["_law_script"] (zNv K):=by
 refine F.ok zHw (fun vs H Q E h=>?_) (fun cdv A outer s H vs Q E hr h=>?_)
 ·obtain ⟨a,ns,rfl,hS,h63,k⟩:=h
  rfl
 obtain ⟨a,ns,rfl,hS,h63,k⟩:=h
 refine ⟨_,zAE (zAP (i:=1) zHw.nd rfl (Or.inl rfl) (zAJ zOP hr rfl (zAA (pv 0) (zAA (zAG) (zAH)))))
  (zAE (zAP (i:=2) zHw.nd rfl (Or.inl rfl) (zAJ zOe hr rfl (zAA (pv 1) (zAH))))
  (zAE (zAP (i:=3) zHw.nd rfl (Or.inl rfl) (zAJ zAN hr rfl (zAA (zAJ zCn hr rfl (zAA (pv 0) (zAA (zAG) (zAH)))) (zAA (zAG) (zAA (zAG) (zAH))))))
  (zAE (zAP (i:=4) zHw.nd rfl (Or.inl rfl) (zAS zPz (zAS zPz (zBR zKa (pv 1) (zCa) (zBI (zHr zEk (zAG)))) (zDI (zAA (pv 3) (zAH)))) (zBR zKa (pv 1) (zBI (zHr zEk (zAG))) (zCa))))
  (zAE (zAP (i:=5) zHw.nd rfl (Or.inl rfl) (zD5 (zAt zD6 zAM zBn hr (pv 2) (zAA (pv 3) (zAH))) (zD5 (zAt zE6 zAb zBn hr (pv 2) (zAA (pv 3) (zAH))) (zAt zD8 zAY zBn hr (pv 2) (zAA (pv 3) (zAH))))))
  (zAE (zBC (PW.pt (zHQ (zAT (zN8 (hu20 hr)) (zAJ zCg hr rfl (zAA (pv 2) (zAA (pv 1) (zAH)))) (zFl zDq rfl B.z_list zIO (zAA (pv 1) (zAH))) (zAV _)) (zHQ (zAT (zN8 (hu20 hr)) (zAJ zCg hr rfl (zAA (pv 5) (zAA (pv 1) (zAH)))) (zFl zDq rfl B.z_list zIO (zAA (pv 4) (zAH))) (zAV _)) (zEw (zCo (zB2 (zAJ zNH hr rfl (zAA (pv 1) (zAH))))))))) (zAI (zAQ (zHt))) (zAW))
  (zAE (zI4 PassesOwn.never rfl (zLY rfl B.z_range (zAA (zAG) (zAA (zAO (zHD rfl) B.z_max rfl zNx (zAA (zAG) (zAA (zAO (zG7 rfl) B.z_min rfl zN1 (zAA (zAO zH3 B.z_len rfl zBl (zAA (pv 0) (zAH))) (zAA (zAG) (zAH)))) (zAH)))) (zAH)))) (zBX (i:=6) zHw.nd rfl (Or.inl rfl)) (zAE (zAP (i:=7) zHw.nd rfl (Or.inl rfl) (zAJ zM9 hr rfl (zAA (zAJ zCn hr rfl (zAA (pv 0) (zAA (pv 6) (zAH)))) (zAA (pv 1) (zAH)))))
  (zAE (zBC (PW.pt (zHQ (zAT (zN8 (hu20 hr)) (zAJ zKY hr rfl (zAA (pv 5) (zAA (pv 7) (zAH)))) (zAJ zIT hr rfl (zAA (pv 7) (zAA (pv 4) (zAH)))) (zAV _)) (zEw (zAT (zN8 (hu20 hr)) (zAJ zKY hr rfl (zAA (pv 2) (zAA (pv 7) (zAH)))) (zAJ zIT hr rfl (zAA (pv 7) (zAA (pv 1) (zAH)))) (zAV _))))) (zAI (zAQ (zHt))) (zAW))
  (zAE (zAP (i:=8) zHw.nd rfl (Or.inl rfl) (zAJ zIT hr rfl (zAA (pv 7) (zAA (pv 4) (zAH)))))
  (zAI (zBC (PW.pt (zGR (zAT zOF (pv 8) (zI5) (zAV _)) (zD4 (zAT (zUZ (hu20 hr)) (pv 7) (zD5 (zAt zFr zAM zBn hr (pv 5) (zAA (pv 8) (zAH))) (zD5 (zAt zGf zAb zBn hr (pv 5) (zAA (pv 8) (zAH))) (zAt zFv zAY zBn hr (pv 5) (zAA (pv 8) (zAH))))) (by with_unfolding_all rfl))))) (zAI (zAQ (zHt))) (zAW)))))))
  (zAI (zAQ (zJk (zCG (zNu (hu20 hr)) (zAJ zCg hr rfl (zAA (pv 2) (zAA (pv 1) (zAH)))) (zFl zDq rfl B.z_list zIO (zAA (pv 1) (zAH))) (zAV _)) (zJ2 (zAO zCY B.z_isinstance rfl zA7 (zAA (zD5 (zAt zD6 zAM zBn hr (pv 2) (zAA (zAG) (zAH))) (zD5 (zAt zE6 zAb zBn hr (pv 2) (zAA (zAG) (zAH))) (zAt zD8 zAY zBn hr (pv 2) (zAA (zAG) (zAH))))) (zAA (zDK rfl zEh (v:=.ref zBS) rfl) (zAH)))))))))))))),?_⟩
 walk_at "st"
 walk_at "rd"
 refine zVI hS h63 fun p H1 wd f x st d g1 S1=>?_
 have hS1:=g1.seq hS
 walk_at "rd"
 refine zWS S1 fun o H2 g2 F2=>?_
 have hS2:=g2.seq hS1
 have S2:=S1.same g2
 walk_at "rd"
 rename_i v1 wn n0 n1
 refine zVO S2 n0 (by omega) (fun H3 Q' g3 h=>by walk_at "rd"; exact h _ _ (by assumption) (by assumption)) (fun H3 Q' g3 h=>by walk_at "rd"; exact h) fun p2 H3 g3 S3=>?_
 have F3:=F2.same g3
 have S23:=S2.same g3
 walk_at "rd"
 refine zMX F3 n0 (by omega) (fun Q' h=>by walk_at "rd"; exact h) (fun Q' h=>by walk_at "rd"; exact h) fun o2 H4 g4 F4=>?_
 have F34:=F3.same g4
 have S24:=S23.same g4
 have S34:=S3.same g4
 obtain ⟨c1,c2⟩:=zLm (st:=st) S24.okS
 obtain ⟨c3,c4⟩:=zLm (st:=st) S34.okS
 walk_at "rd"
 refine zG2 F34 S24 rfl fun l5 H5 g5 d5=>?_
 walk_at "rd"
 refine zNZ (S24.same g5) fun l6 H6 g6 d6=>?_
 refine zR2 (Dt.same g6 d5) d6 c1 c2 ?_
 have g46:=g5.trans g6
 walk_at "rd"
 refine zG2 (F4.same g46) (S24.same g46) rfl fun l7 H7 g7 d7=>?_
 walk_at "rd"
 refine zNZ ((S34.same g46).same g7) fun l8 H8 g8 d8=>?_
 refine zR2 (Dt.same g8 d7) d8 c3 c4 ?_
 have g48:=g46.trans (g7.trans g8)
 walk_at "rd"
 refine zUY (S24.same g48) fun H9 g9=>?_
 have g49:=g48.trans g9
 have hS9:=g49.seq (g4.seq (g3.seq hS2))
 have S29:=S24.same g49
 have S39:=S34.same g49
 have F9:=F34.same g49
 have F49:=F4.same g49
 clear d5 d6 d7 d8 F34 S24 S34 F4 S23 F3 S3 S2 F2 S1
 walk_at "rd"
 rename_i k1 hk1 k0 hk0
 rw [List.length_map] at hk1
 refine zNy (by omega) (fun i σ H'=>Same H9 H' ∧ ∃ (r1 r2 r3:Option V),σ=[some (.ref a),some (.ref p),some (.ref o),some (.int wn),some (.ref p2),some (.ref o2),r1,r2,r3]) ⟨Same.refl _,none,none,none,rfl⟩ ?_ ?_
 ·rintro i σ HA hlt ⟨gA,r1,r2,r3,rfl⟩
  have hSA:=gA.seq hS9
  walk_at "rd"
  refine zUg (S29.same gA) fun v HB ld rs gB VB=>?_
  have gAB:=gA.trans gB
  obtain ⟨l1,l2,a1,a2⟩:=VB.ok S39.okS
  obtain ⟨sx,w0,w1,hf⟩:=S39.bd
  obtain ⟨_,v0,v1,_⟩:=S29.bd
  have t1:=(zJo sx w0 w1 hf l1 l2 a1 a2).1
  have t2:=(zJo sx v0 v1 hf l1 l2 a1 a2).1
  obtain ⟨c5,c6⟩:=zVt (st:=st) t1
  obtain ⟨c7,c8⟩:=zVt (st:=st) t2
  walk_at "rd"
  refine zSU (F49.same gAB) VB fun HC gC=>?_
  walk_at "rd"
  refine zQY ((S39.same gAB).same gC) (VB.same gC) fun HD gD=>?_
  refine zR2 zRk zRk c5 c6 ?_
  have gBD:=gC.trans gD
  walk_at "rd"
  refine zSU ((F9.same gAB).same gBD) (VB.same gBD) fun HE gE=>?_
  walk_at "rd"
  refine zQY ((S29.same gAB).same (gBD.trans gE)) (VB.same (gBD.trans gE)) fun HF gF=>?_
  refine zR2 zRk zRk c7 c8 ?_
  have gBF:=gBD.trans (gE.trans gF)
  walk_at "rd"
  refine zQY ((S39.same gAB).same gBF) (VB.same gBF) fun HG gG=>?_
  have gBG:=gBF.trans gG
  have VG:=VB.same gBG
  have FG:=(F49.same gAB).same gBG
  by_cases nw:(st && decide (wn < ((ld++rs).length:Int)))=true
  ·rw [show txV wn f x st ld rs = .non from if_pos nw]
   walk_at "rd"
   refine zUG ?_
   walk_at "rd"
   exact ⟨gAB.trans gBG,_,_,_,rfl⟩
  ·rw [show txV wn f x st ld rs = .str (T (nfil ld (ld++rs) wn f x)) from if_neg nw]
   walk_at "rd"
   refine zUV ?_
   walk_at "rd"
   refine zRN FG VG (by simpa using nw) (fun Q' h=>by walk_at "rd"; exact h) (fun Q' h=>by walk_at "rd"; exact h) fun y HH gH hq=>?_
   refine hq _ ?_
   walk_at "rd"
   exact ⟨gAB.trans (gBG.trans gH),_,_,_,rfl⟩
 ·rintro σ HA ⟨gA,r1,r2,r3,rfl⟩
  walk_at "rd"
  refine zG2 (F9.same gA) (S29.same gA) rfl fun l5 H5 g5 d5=>?_
  walk_at "rd"
  refine zNZ ((S29.same gA).same g5) fun l6 H6 g6 d6=>?_
  refine zRr (Dt.same g6 d5) d6 c1 c2 ?_
  walk_at "rd"
  refine zMX (n:=0) ((F9.same gA).same (g5.trans g6)) (by decide) (by decide) (fun Q' h=>by walk_at "rd"; exact h) (fun Q' h=>by walk_at "rd"; exact h) fun o3 H7 g7 F7=>?_
  cases F7 with
  | num F ok=>walk_at "rd"; refine zF8 (isn.ty F) ⟨"", .inr ⟨_,rfl⟩⟩ isn.k4 ?_;walk_at "rd"; exact k _
  | word F ok=>walk_at "rd"; refine zF8 (isw.ty F) ⟨"", .inr ⟨_,rfl⟩⟩ isw.k4 ?_;walk_at "rd"; exact k _
  | cho F e ok=>walk_at "rd"; refine zF8 (isc.ty F) ⟨"", .inr ⟨_,rfl⟩⟩ isc.k4 ?_;walk_at "rd"; exact k _
end
theorem all_mk {l:W.OpenLaw} {w:World} {K:W.Frag} {h:Heap} {mg:Str→Option Value} {fa f0 f1 f2 f3 f4 f5 f6 f7 f8 f9 f10 f11 f12 f13 f14 f15 f16 f17 f18 f19 f20 f21 f22 f23 f24 f25 f26 f27 f28 f29 f30 f31 f32 f33 f34 f35 f36 f37 f38 f39 f40 f41 f42 f43 f44 f45 f46 f47 f48 f49 f50 f51 f52 f53 f54 f55 f56 f57 f58 f59 f60 f61 f62 f63 f64 f65 f66 f67 f68 f69 f70 f71 f72 f73 f74 f75 f76:Addr} (X:K.In h) (G:h.Ns mainGlobals mg) (hfa:mg "law" = some (.ref fa))
  {od0 an0 od1 an1 od2 an2 od3 an3 od4 an4 od5 an5 od6 an6 od7 an7 od8 an8 od9 an9 od10 an10 od11 an11 od12 an12 od13 an13 od14 an14 od15 an15 od16 an16 od17 an17 od18 an18 od19 an19 od20 an20 od21 an21 od22 an22 od23 an23 od24 an24 od25 an25 od26 an26 od27 an27 od28 an28 od29 an29 od30 an30 od31 an31 od32 an32 od33 an33 od34 an34 od35 an35 od36 an36 od37 an37 od38 an38 od39 an39 od40 an40 od41 an41 od42 an42 od43 an43 od44 an44 od45 an45 od46 an46 od47 an47 od48 an48 od49 an49 od50 an50 od51 an51 od52 an52 od53 an53 od54 an54 od55 an55 od56 an56 od57 an57 od58 an58 od59 an59 od60 an60 od61 an61 od62 an62 od63 an63 od64 an64 od65 an65 od66 an66 od67 an67 od68 an68 od69 an69 od70 an70 od71 an71 od72 an72 od73 an73 od74 an74 od75 an75 od76 an76:Option Addr} {sl0 sl1 sl2 sl3 sl4 sl5 sl6 sl7 sl8 sl9 sl10 sl11 sl12 sl13 sl14 sl15 sl16 sl17 sl18 sl19 sl20 sl21 sl22 sl23 sl24 sl25 sl26 sl27 sl28 sl29 sl30 sl31 sl32 sl33 sl34 sl35 sl36 sl37 sl38 sl39 sl40 sl41 sl42 sl43 sl44 sl45 sl46 sl47 sl48 sl49 sl50 sl51 sl52 sl53 sl54 sl55 sl56 sl57 sl58 sl59 sl60 sl61 sl62 sl63 sl64 sl65 sl66 sl67 sl68 sl69 sl70 sl71 sl72 sl73 sl74 sl75 sl76:Array (Option Value)} {oc0 kV0 dc0 pm0 cd0 ct0 oc1 kV1 dc1 pm1 cd1 ct1 oc2 kV2 dc2 pm2 cd2 ct2 oc3 kV3 dc3 pm3 cd3 ct3 oc4 kV4 dc4 pm4 cd4 ct4 oc5 kV5 dc5 pm5 cd5 ct5 oc6 kV6 dc6 pm6 cd6 ct6 oc7 kV7 dc7 pm7 cd7 ct7 oc8 kV8 dc8 pm8 cd8 ct8 oc9 kV9 dc9 pm9 cd9 ct9 oc10 kV10 dc10 pm10 cd10 ct10 oc11 kV11 dc11 pm11 cd11 ct11 oc12 kV12 dc12 pm12 cd12 ct12 oc13 kV13 dc13 pm13 cd13 ct13 oc14 kV14 dc14 pm14 cd14 ct14 oc15 kV15 dc15 pm15 cd15 ct15 oc16 kV16 dc16 pm16 cd16 ct16 oc17 kV17 dc17 pm17 cd17 ct17 oc18 kV18 dc18 pm18 cd18 ct18 oc19 kV19 dc19 pm19 cd19 ct19 oc20 kV20 dc20 pm20 cd20 ct20 oc21 kV21 dc21 pm21 cd21 ct21 oc22 kV22 dc22 pm22 cd22 ct22 oc23 kV23 dc23 pm23 cd23 ct23 ocD23 d23v0 d23v1 d23v2 d23v3 oc24 kV24 dc24 pm24 cd24 ct24 ocD24 d24v0 d24v1 d24v2 d24v3 oc25 kV25 dc25 pm25 cd25 ct25 ocD25 d25v0 d25v1 d25v2 d25v3 d25v4 d25v5 d25v6 d25v7 d25v8 d25v9 oc26 kV26 dc26 pm26 cd26 ct26 oc27 kV27 dc27 pm27 cd27 ct27 oc28 kV28 dc28 pm28 cd28 ct28 oc29 kV29 dc29 pm29 cd29 ct29 oc30 kV30 dc30 pm30 cd30 ct30 oc31 kV31 dc31 pm31 cd31 ct31 oc32 kV32 dc32 pm32 cd32 ct32 oc33 kV33 dc33 pm33 cd33 ct33 oc34 kV34 dc34 pm34 cd34 ct34 oc35 kV35 dc35 pm35 cd35 ct35 oc36 kV36 dc36 pm36 cd36 ct36 oc37 kV37 dc37 pm37 cd37 ct37 oc38 kV38 dc38 pm38 cd38 ct38 oc39 kV39 dc39 pm39 cd39 ct39 oc40 kV40 dc40 pm40 cd40 ct40 oc41 kV41 dc41 pm41 cd41 ct41 oc42 kV42 dc42 pm42 cd42 ct42 oc43 kV43 dc43 pm43 cd43 ct43 oc44 kV44 dc44 pm44 cd44 ct44 oc45 kV45 dc45 pm45 cd45 ct45 oc46 kV46 dc46 pm46 cd46 ct46 oc47 kV47 dc47 pm47 cd47 ct47 oc48 kV48 dc48 pm48 cd48 ct48 oc49 kV49 dc49 pm49 cd49 ct49 oc50 kV50 dc50 pm50 cd50 ct50 oc51 kV51 dc51 pm51 cd51 ct51 oc52 kV52 dc52 pm52 cd52 ct52 oc53 kV53 dc53 pm53 cd53 ct53 oc54 kV54 dc54 pm54 cd54 ct54 oc55 kV55 dc55 pm55 cd55 ct55 oc56 kV56 dc56 pm56 cd56 ct56 oc57 kV57 dc57 pm57 cd57 ct57 oc58 kV58 dc58 pm58 cd58 ct58 oc59 kV59 dc59 pm59 cd59 ct59 oc60 kV60 dc60 pm60 cd60 ct60 oc61 kV61 dc61 pm61 cd61 ct61 oc62 kV62 dc62 pm62 cd62 ct62 oc63 kV63 dc63 pm63 cd63 ct63 oc64 kV64 dc64 pm64 cd64 ct64 oc65 kV65 dc65 pm65 cd65 ct65 oc66 kV66 dc66 pm66 cd66 ct66 oc67 kV67 dc67 pm67 cd67 ct67 oc68 kV68 dc68 pm68 cd68 ct68 oc69 kV69 dc69 pm69 cd69 ct69 oc70 kV70 dc70 pm70 cd70 ct70 oc71 kV71 dc71 pm71 cd71 ct71 oc72 kV72 dc72 pm72 cd72 ct72 oc73 kV73 dc73 pm73 cd73 ct73 oc74 kV74 dc74 pm74 cd74 ct74 oc75 kV75 dc75 pm75 cd75 ct75 oc76 kV76 dc76 pm76 cd76 ct76:Value} {tD23:Addr} {odD23:Option Addr} {nD23:Nat} {slD23:Array (Option Value)} {tD24:Addr} {odD24:Option Addr} {nD24:Nat} {slD24:Array (Option Value)} {tD25:Addr} {odD25:Option Addr} {nD25:Nat} {slD25:Array (Option Value)} {zAp zAy zA4 zBG zA1 zBS zAB zAD zAC:Addr} {zEf:Tok} {zF4:Addr} {zGh:Tok} {zFK:Tok}
  (a0:W.nsIn K mainGlobals "_law_cell_at" = some (some (.ref f0))) (l0:K.lookup f0=some ⟨oc0,od0,.func (W.fnOf "_law_cell_at" "_law_cell_at" (zAL zCk) (zAK zCk) (zAF zCk) .none kV0 dc0 pm0 an0 cd0 ct0),sl0⟩) (c0:W.codeIn K cd0 "_law_cell_at" = true) (k0:W.keepIn K (.ref f0)=true)
  (a1:W.nsIn K mainGlobals "_law_pick" = some (some (.ref f1))) (l1:K.lookup f1=some ⟨oc1,od1,.func (W.fnOf "_law_pick" "_law_pick" (zAL zEN) (zAK zEN) (zAF zEN) .none kV1 dc1 pm1 an1 cd1 ct1),sl1⟩) (c1:W.codeIn K cd1 "_law_pick" = true) (k1:W.keepIn K (.ref f1)=true)
  (a2:W.nsIn K mainGlobals "pads_of" = some (some (.ref f2))) (l2:K.lookup f2=some ⟨oc2,od2,.func (W.fnOf "pads_of" "pads_of" (zAL zFc) (zAK zFc) (zAF zFc) .none kV2 dc2 pm2 an2 cd2 ct2),sl2⟩) (c2:W.codeIn K cd2 "pads_of" = true) (k2:W.keepIn K (.ref f2)=true)
  (a3:W.nsIn K mainGlobals "padded" = some (some (.ref f3))) (l3:K.lookup f3=some ⟨oc3,od3,.func (W.fnOf "padded" "padded" (zAL zHA) (zAK zHA) (zAF zHA) .none kV3 dc3 pm3 an3 cd3 ct3),sl3⟩) (c3:W.codeIn K cd3 "padded" = true) (k3:W.keepIn K (.ref f3)=true)
  (a4:W.nsIn K mainGlobals "power_of" = some (some (.ref f4))) (l4:K.lookup f4=some ⟨oc4,od4,.func (W.fnOf "power_of" "power_of" (zAL zEU) (zAK zEU) (zAF zEU) .none kV4 dc4 pm4 an4 cd4 ct4),sl4⟩) (c4:W.codeIn K cd4 "power_of" = true) (k4:W.keepIn K (.ref f4)=true)
  (a5:W.nsIn K mainGlobals "goes_up" = some (some (.ref f5))) (l5:K.lookup f5=some ⟨oc5,od5,.func (W.fnOf "goes_up" "goes_up" (zAL zFh) (zAK zFh) (zAF zFh) .none kV5 dc5 pm5 an5 cd5 ct5),sl5⟩) (c5:W.codeIn K cd5 "goes_up" = true) (k5:W.keepIn K (.ref f5)=true)
  (a6:W.nsIn K mainGlobals "gridded" = some (some (.ref f6))) (l6:K.lookup f6=some ⟨oc6,od6,.func (W.fnOf "gridded" "gridded" (zAL zFg) (zAK zFg) (zAF zFg) .none kV6 dc6 pm6 an6 cd6 ct6),sl6⟩) (c6:W.codeIn K cd6 "gridded" = true) (k6:W.keepIn K (.ref f6)=true)
  (a7:W.nsIn K mainGlobals "figures_of" = some (some (.ref f7))) (l7:K.lookup f7=some ⟨oc7,od7,.func (W.fnOf "figures_of" "figures_of" (zAL zDC) (zAK zDC) (zAF zDC) .none kV7 dc7 pm7 an7 cd7 ct7),sl7⟩) (c7:W.codeIn K cd7 "figures_of" = true) (k7:W.keepIn K (.ref f7)=true)
  (a8:W.nsIn K mainGlobals "parts_of" = some (some (.ref f8))) (l8:K.lookup f8=some ⟨oc8,od8,.func (W.fnOf "parts_of" "parts_of" (zAL zEJ) (zAK zEJ) (zAF zEJ) .none kV8 dc8 pm8 an8 cd8 ct8),sl8⟩) (c8:W.codeIn K cd8 "parts_of" = true) (k8:W.keepIn K (.ref f8)=true)
  (a9:W.nsIn K mainGlobals "grouped" = some (some (.ref f9))) (l9:K.lookup f9=some ⟨oc9,od9,.func (W.fnOf "grouped" "grouped" (zAL zFZ) (zAK zFZ) (zAF zFZ) .none kV9 dc9 pm9 an9 cd9 ct9),sl9⟩) (c9:W.codeIn K cd9 "grouped" = true) (k9:W.keepIn K (.ref f9)=true)
  (a10:W.nsIn K mainGlobals "body_of" = some (some (.ref f10))) (l10:K.lookup f10=some ⟨oc10,od10,.func (W.fnOf "body_of" "body_of" (zAL zFX) (zAK zFX) (zAF zFX) .none kV10 dc10 pm10 an10 cd10 ct10),sl10⟩) (c10:W.codeIn K cd10 "body_of" = true) (k10:W.keepIn K (.ref f10)=true)
  (a11:W.nsIn K mainGlobals "ends_of" = some (some (.ref f11))) (l11:K.lookup f11=some ⟨oc11,od11,.func (W.fnOf "ends_of" "ends_of" (zAL zFb) (zAK zFb) (zAF zFb) .none kV11 dc11 pm11 an11 cd11 ct11),sl11⟩) (c11:W.codeIn K cd11 "ends_of" = true) (k11:W.keepIn K (.ref f11)=true)
  (a12:W.nsIn K mainGlobals "signed" = some (some (.ref f12))) (l12:K.lookup f12=some ⟨oc12,od12,.func (W.fnOf "signed" "signed" (zAL zG3) (zAK zG3) (zAF zG3) .none kV12 dc12 pm12 an12 cd12 ct12),sl12⟩) (c12:W.codeIn K cd12 "signed" = true) (k12:W.keepIn K (.ref f12)=true)
  (a13:W.nsIn K mainGlobals "stands_between_figures" = some (some (.ref f13))) (l13:K.lookup f13=some ⟨oc13,od13,.func (W.fnOf "stands_between_figures" "stands_between_figures" (zAL zA9) (zAK zA9) (zAF zA9) .none kV13 dc13 pm13 an13 cd13 ct13),sl13⟩) (c13:W.codeIn K cd13 "stands_between_figures" = true) (k13:W.keepIn K (.ref f13)=true)
  (a14:W.nsIn K mainGlobals "unsigned" = some (some (.ref f14))) (l14:K.lookup f14=some ⟨oc14,od14,.func (W.fnOf "unsigned" "unsigned" (zAL zEK) (zAK zEK) (zAF zEK) .none kV14 dc14 pm14 an14 cd14 ct14),sl14⟩) (c14:W.codeIn K cd14 "unsigned" = true) (k14:W.keepIn K (.ref f14)=true)
  (a15:W.nsIn K mainGlobals "is_whole" = some (some (.ref f15))) (l15:K.lookup f15=some ⟨oc15,od15,.func (W.fnOf "is_whole" "is_whole" (zAL zEQ) (zAK zEQ) (zAF zEQ) .none kV15 dc15 pm15 an15 cd15 ct15),sl15⟩) (c15:W.codeIn K cd15 "is_whole" = true) (k15:W.keepIn K (.ref f15)=true)
  (a16:W.nsIn K mainGlobals "common_divisor" = some (some (.ref f16))) (l16:K.lookup f16=some ⟨oc16,od16,.func (W.fnOf "common_divisor" "common_divisor" (zAL zBy) (zAK zBy) (zAF zBy) .none kV16 dc16 pm16 an16 cd16 ct16),sl16⟩) (c16:W.codeIn K cd16 "common_divisor" = true) (k16:W.keepIn K (.ref f16)=true)
  (a17:W.nsIn K mainGlobals "is_fraction" = some (some (.ref f17))) (l17:K.lookup f17=some ⟨oc17,od17,.func (W.fnOf "is_fraction" "is_fraction" (zAL zCl) (zAK zCl) (zAF zCl) .none kV17 dc17 pm17 an17 cd17 ct17),sl17⟩) (c17:W.codeIn K cd17 "is_fraction" = true) (k17:W.keepIn K (.ref f17)=true)
  (a18:W.nsIn K mainGlobals "ungrouped" = some (some (.ref f18))) (l18:K.lookup f18=some ⟨oc18,od18,.func (W.fnOf "ungrouped" "ungrouped" (zAL zDo) (zAK zDo) (zAF zDo) .none kV18 dc18 pm18 an18 cd18 ct18),sl18⟩) (c18:W.codeIn K cd18 "ungrouped" = true) (k18:W.keepIn K (.ref f18)=true)
  (a19:W.nsIn K mainGlobals "number_of" = some (some (.ref f19))) (l19:K.lookup f19=some ⟨oc19,od19,.func (W.fnOf "number_of" "number_of" (zAL zDn) (zAK zDn) (zAF zDn) .none kV19 dc19 pm19 an19 cd19 ct19),sl19⟩) (c19:W.codeIn K cd19 "number_of" = true) (k19:W.keepIn K (.ref f19)=true)
  (a20:W.nsIn K mainGlobals "whole_end" = some (some (.ref f20))) (l20:K.lookup f20=some ⟨oc20,od20,.func (W.fnOf "whole_end" "whole_end" (zAL zDe) (zAK zDe) (zAF zDe) .none kV20 dc20 pm20 an20 cd20 ct20),sl20⟩) (c20:W.codeIn K cd20 "whole_end" = true) (k20:W.keepIn K (.ref f20)=true)
  (a21:W.nsIn K mainGlobals "number_in" = some (some (.ref f21))) (l21:K.lookup f21=some ⟨oc21,od21,.func (W.fnOf "number_in" "number_in" (zAL zDr) (zAK zDr) (zAF zDr) .none kV21 dc21 pm21 an21 cd21 ct21),sl21⟩) (c21:W.codeIn K cd21 "number_in" = true) (k21:W.keepIn K (.ref f21)=true)
  (a22:W.findIn K (.ref zBS) "__init__" = some (some (.ref f22))) (l22:K.lookup f22=some ⟨oc22,od22,.func (W.fnOf "__init__" "Form.__init__" (zAL zBL) (zAK zBL) (zAF zBL) .none kV22 dc22 pm22 an22 cd22 ct22),sl22⟩) (c22:W.codeIn K cd22 "Form.__init__" = true) (k22:W.keepIn K (.ref f22)=true)
  (a23:W.findIn K (.ref zAD) "__init__" = some (some (.ref f23))) (l23:K.lookup f23=some ⟨oc23,od23,.func (W.fnOf "__init__" "WordForm.__init__" (zAL zAk) (zAK zAk) (zAF zAk) (.ref tD23) kV23 dc23 pm23 an23 cd23 ct23),sl23⟩) (c23:W.codeIn K cd23 "WordForm.__init__" = true) (k23:W.keepIn K (.ref f23)=true)
  (a24:W.findIn K (.ref zAC) "__init__" = some (some (.ref f24))) (l24:K.lookup f24=some ⟨oc24,od24,.func (W.fnOf "__init__" "ChoiceForm.__init__" (zAL zAd) (zAK zAd) (zAF zAd) (.ref tD24) kV24 dc24 pm24 an24 cd24 ct24),sl24⟩) (c24:W.codeIn K cd24 "ChoiceForm.__init__" = true) (k24:W.keepIn K (.ref f24)=true)
  (a25:W.findIn K (.ref zAB) "__init__" = some (some (.ref f25))) (l25:K.lookup f25=some ⟨oc25,od25,.func (W.fnOf "__init__" "NumberForm.__init__" (zAL zAc) (zAK zAc) (zAF zAc) (.ref tD25) kV25 dc25 pm25 an25 cd25 ct25),sl25⟩) (c25:W.codeIn K cd25 "NumberForm.__init__" = true) (k25:W.keepIn K (.ref f25)=true)
  (a26:W.findIn K (.ref zAB) "is_too_great" = some (some (.ref f26))) (l26:K.lookup f26=some ⟨oc26,od26,.func (W.fnOf "is_too_great" "NumberForm.is_too_great" (zAL zAh) (zAK zAh) (zAF zAh) .none kV26 dc26 pm26 an26 cd26 ct26),sl26⟩) (c26:W.codeIn K cd26 "NumberForm.is_too_great" = true) (k26:W.keepIn K (.ref f26)=true)
  (a27:W.findIn K (.ref zAB) "core" = some (some (.ref f27))) (l27:K.lookup f27=some ⟨oc27,od27,.func (W.fnOf "core" "NumberForm.core" (zAL zBD) (zAK zBD) (zAF zBD) .none kV27 dc27 pm27 an27 cd27 ct27),sl27⟩) (c27:W.codeIn K cd27 "NumberForm.core" = true) (k27:W.keepIn K (.ref f27)=true)
  (a28:W.findIn K (.ref zBS) "is_too_wide" = some (some (.ref f28))) (l28:K.lookup f28=some ⟨oc28,od28,.func (W.fnOf "is_too_wide" "Form.is_too_wide" (zAL zA5) (zAK zA5) (zAF zA5) .none kV28 dc28 pm28 an28 cd28 ct28),sl28⟩) (c28:W.codeIn K cd28 "Form.is_too_wide" = true) (k28:W.keepIn K (.ref f28)=true)
  (a29:W.nsIn K mainGlobals "padded_inside" = some (some (.ref f29))) (l29:K.lookup f29=some ⟨oc29,od29,.func (W.fnOf "padded_inside" "padded_inside" (zAL zCC) (zAK zCC) (zAF zCC) .none kV29 dc29 pm29 an29 cd29 ct29),sl29⟩) (c29:W.codeIn K cd29 "padded_inside" = true) (k29:W.keepIn K (.ref f29)=true)
  (a30:W.findIn K (.ref zAB) "lead_of" = some (some (.ref f30))) (l30:K.lookup f30=some ⟨oc30,od30,.func (W.fnOf "lead_of" "NumberForm.lead_of" (zAL zAw) (zAK zAw) (zAF zAw) .none kV30 dc30 pm30 an30 cd30 ct30),sl30⟩) (c30:W.codeIn K cd30 "NumberForm.lead_of" = true) (k30:W.keepIn K (.ref f30)=true)
  (a31:W.findIn K (.ref zBS) "filled" = some (some (.ref f31))) (l31:K.lookup f31=some ⟨oc31,od31,.func (W.fnOf "filled" "Form.filled" (zAL zBg) (zAK zBg) (zAF zBg) .none kV31 dc31 pm31 an31 cd31 ct31),sl31⟩) (c31:W.codeIn K cd31 "Form.filled" = true) (k31:W.keepIn K (.ref f31)=true)
  (a32:W.findIn K (.ref zAD) "is_word" = some (some (.ref f32))) (l32:K.lookup f32=some ⟨oc32,od32,.func (W.fnOf "is_word" "WordForm.is_word" (zAL zA8) (zAK zA8) (zAF zA8) .none kV32 dc32 pm32 an32 cd32 ct32),sl32⟩) (c32:W.codeIn K cd32 "WordForm.is_word" = true) (k32:W.keepIn K (.ref f32)=true)
  (a33:W.findIn K (.ref zAD) "core" = some (some (.ref f33))) (l33:K.lookup f33=some ⟨oc33,od33,.func (W.fnOf "core" "WordForm.core" (zAL zBQ) (zAK zBQ) (zAF zBQ) .none kV33 dc33 pm33 an33 cd33 ct33),sl33⟩) (c33:W.codeIn K cd33 "WordForm.core" = true) (k33:W.keepIn K (.ref f33)=true)
  (a34:W.findIn K (.ref zAC) "core" = some (some (.ref f34))) (l34:K.lookup f34=some ⟨oc34,od34,.func (W.fnOf "core" "ChoiceForm.core" (zAL zBB) (zAK zBB) (zAF zBB) .none kV34 dc34 pm34 an34 cd34 ct34),sl34⟩) (c34:W.codeIn K cd34 "ChoiceForm.core" = true) (k34:W.keepIn K (.ref f34)=true)
  (a35:W.findIn K (.ref zBS) "put" = some (some (.ref f35))) (l35:K.lookup f35=some ⟨oc35,od35,.func (W.fnOf "put" "Form.put" (zAL zCi) (zAK zCi) (zAF zCi) .none kV35 dc35 pm35 an35 cd35 ct35),sl35⟩) (c35:W.codeIn K cd35 "Form.put" = true) (k35:W.keepIn K (.ref f35)=true)
  (a36:W.nsIn K mainGlobals "stripped" = some (some (.ref f36))) (l36:K.lookup f36=some ⟨oc36,od36,.func (W.fnOf "stripped" "stripped" (zAL zEL) (zAK zEL) (zAF zEL) .none kV36 dc36 pm36 an36 cd36 ct36),sl36⟩) (c36:W.codeIn K cd36 "stripped" = true) (k36:W.keepIn K (.ref f36)=true)
  (a37:W.findIn K (.ref zBS) "unfilled" = some (some (.ref f37))) (l37:K.lookup f37=some ⟨oc37,od37,.func (W.fnOf "unfilled" "Form.unfilled" (zAL zBM) (zAK zBM) (zAF zBM) .none kV37 dc37 pm37 an37 cd37 ct37),sl37⟩) (c37:W.codeIn K cd37 "Form.unfilled" = true) (k37:W.keepIn K (.ref f37)=true)
  (a38:W.nsIn K mainGlobals "fraction" = some (some (.ref f38))) (l38:K.lookup f38=some ⟨oc38,od38,.func (W.fnOf "fraction" "fraction" (zAL zEM) (zAK zEM) (zAF zEM) .none kV38 dc38 pm38 an38 cd38 ct38),sl38⟩) (c38:W.codeIn K cd38 "fraction" = true) (k38:W.keepIn K (.ref f38)=true)
  (a39:W.nsIn K mainGlobals "grid_value" = some (some (.ref f39))) (l39:K.lookup f39=some ⟨oc39,od39,.func (W.fnOf "grid_value" "grid_value" (zAL zDB) (zAK zDB) (zAF zDB) .none kV39 dc39 pm39 an39 cd39 ct39),sl39⟩) (c39:W.codeIn K cd39 "grid_value" = true) (k39:W.keepIn K (.ref f39)=true)
  (a40:W.findIn K (.ref zAB) "number_with" = some (some (.ref f40))) (l40:K.lookup f40=some ⟨oc40,od40,.func (W.fnOf "number_with" "NumberForm.number_with" (zAL zAj) (zAK zAj) (zAF zAj) .none kV40 dc40 pm40 an40 cd40 ct40),sl40⟩) (c40:W.codeIn K cd40 "NumberForm.number_with" = true) (k40:W.keepIn K (.ref f40)=true)
  (a41:W.nsIn K mainGlobals "stripped_inside" = some (some (.ref f41))) (l41:K.lookup f41=some ⟨oc41,od41,.func (W.fnOf "stripped_inside" "stripped_inside" (zAL zBr) (zAK zBr) (zAF zBr) .none kV41 dc41 pm41 an41 cd41 ct41),sl41⟩) (c41:W.codeIn K cd41 "stripped_inside" = true) (k41:W.keepIn K (.ref f41)=true)
  (a42:W.findIn K (.ref zAB) "cores_in" = some (some (.ref f42))) (l42:K.lookup f42=some ⟨oc42,od42,.func (W.fnOf "cores_in" "NumberForm.cores_in" (zAL zAs) (zAK zAs) (zAF zAs) .none kV42 dc42 pm42 an42 cd42 ct42),sl42⟩) (c42:W.codeIn K cd42 "NumberForm.cores_in" = true) (k42:W.keepIn K (.ref f42)=true)
  (a43:W.findIn K (.ref zAB) "numbers_in" = some (some (.ref f43))) (l43:K.lookup f43=some ⟨oc43,od43,.func (W.fnOf "numbers_in" "NumberForm.numbers_in" (zAL zAl) (zAK zAl) (zAF zAl) .none kV43 dc43 pm43 an43 cd43 ct43),sl43⟩) (c43:W.codeIn K cd43 "NumberForm.numbers_in" = true) (k43:W.keepIn K (.ref f43)=true)
  (a44:W.findIn K (.ref zAB) "values_for" = some (some (.ref f44))) (l44:K.lookup f44=some ⟨oc44,od44,.func (W.fnOf "values_for" "NumberForm.values_for" (zAL zAm) (zAK zAm) (zAF zAm) .none kV44 dc44 pm44 an44 cd44 ct44),sl44⟩) (c44:W.codeIn K cd44 "NumberForm.values_for" = true) (k44:W.keepIn K (.ref f44)=true)
  (a45:W.findIn K (.ref zAC) "values_for" = some (some (.ref f45))) (l45:K.lookup f45=some ⟨oc45,od45,.func (W.fnOf "values_for" "ChoiceForm.values_for" (zAL zAn) (zAK zAn) (zAF zAn) .none kV45 dc45 pm45 an45 cd45 ct45),sl45⟩) (c45:W.codeIn K cd45 "ChoiceForm.values_for" = true) (k45:W.keepIn K (.ref f45)=true)
  (a46:W.findIn K (.ref zAD) "values_for" = some (some (.ref f46))) (l46:K.lookup f46=some ⟨oc46,od46,.func (W.fnOf "values_for" "WordForm.values_for" (zAL zAr) (zAK zAr) (zAF zAr) .none kV46 dc46 pm46 an46 cd46 ct46),sl46⟩) (c46:W.codeIn K cd46 "WordForm.values_for" = true) (k46:W.keepIn K (.ref f46)=true)
  (a47:W.findIn K (.ref zAB) "widened" = some (some (.ref f47))) (l47:K.lookup f47=some ⟨oc47,od47,.func (W.fnOf "widened" "NumberForm.widened" (zAL zAx) (zAK zAx) (zAF zAx) .none kV47 dc47 pm47 an47 cd47 ct47),sl47⟩) (c47:W.codeIn K cd47 "NumberForm.widened" = true) (k47:W.keepIn K (.ref f47)=true)
  (a48:W.findIn K (.ref zAD) "widened" = some (some (.ref f48))) (l48:K.lookup f48=some ⟨oc48,od48,.func (W.fnOf "widened" "WordForm.widened" (zAL zA6) (zAK zA6) (zAF zA6) .none kV48 dc48 pm48 an48 cd48 ct48),sl48⟩) (c48:W.codeIn K cd48 "WordForm.widened" = true) (k48:W.keepIn K (.ref f48)=true)
  (a49:W.findIn K (.ref zAC) "widened" = some (some (.ref f49))) (l49:K.lookup f49=some ⟨oc49,od49,.func (W.fnOf "widened" "ChoiceForm.widened" (zAL zAv) (zAK zAv) (zAF zAv) .none kV49 dc49 pm49 an49 cd49 ct49),sl49⟩) (c49:W.codeIn K cd49 "ChoiceForm.widened" = true) (k49:W.keepIn K (.ref f49)=true)
  (a50:W.nsIn K mainGlobals "_law_signs" = some (some (.ref f50))) (l50:K.lookup f50=some ⟨oc50,od50,.func (W.fnOf "_law_signs" "_law_signs" (zAL zDk) (zAK zDk) (zAF zDk) .none kV50 dc50 pm50 an50 cd50 ct50),sl50⟩) (c50:W.codeIn K cd50 "_law_signs" = true) (k50:W.keepIn K (.ref f50)=true)
  (a51:W.nsIn K mainGlobals "_law_sign" = some (some (.ref f51))) (l51:K.lookup f51=some ⟨oc51,od51,.func (W.fnOf "_law_sign" "_law_sign" (zAL zEI) (zAK zEI) (zAF zEI) .none kV51 dc51 pm51 an51 cd51 ct51),sl51⟩) (c51:W.codeIn K cd51 "_law_sign" = true) (k51:W.keepIn K (.ref f51)=true)
  (a52:W.nsIn K mainGlobals "_law_number_spec" = some (some (.ref f52))) (l52:K.lookup f52=some ⟨oc52,od52,.func (W.fnOf "_law_number_spec" "_law_number_spec" (zAL zBo) (zAK zBo) (zAF zBo) .none kV52 dc52 pm52 an52 cd52 ct52),sl52⟩) (c52:W.codeIn K cd52 "_law_number_spec" = true) (k52:W.keepIn K (.ref f52)=true)
  (a53:W.nsIn K mainGlobals "_law_number_form" = some (some (.ref f53))) (l53:K.lookup f53=some ⟨oc53,od53,.func (W.fnOf "_law_number_form" "_law_number_form" (zAL zBm) (zAK zBm) (zAF zBm) .none kV53 dc53 pm53 an53 cd53 ct53),sl53⟩) (c53:W.codeIn K cd53 "_law_number_form" = true) (k53:W.keepIn K (.ref f53)=true)
  (a54:W.nsIn K mainGlobals "_law_word_spec" = some (some (.ref f54))) (l54:K.lookup f54=some ⟨oc54,od54,.func (W.fnOf "_law_word_spec" "_law_word_spec" (zAL zCI) (zAK zCI) (zAF zCI) .none kV54 dc54 pm54 an54 cd54 ct54),sl54⟩) (c54:W.codeIn K cd54 "_law_word_spec" = true) (k54:W.keepIn K (.ref f54)=true)
  (a55:W.nsIn K mainGlobals "_law_names" = some (some (.ref f55))) (l55:K.lookup f55=some ⟨oc55,od55,.func (W.fnOf "_law_names" "_law_names" (zAL zDl) (zAK zDl) (zAF zDl) .none kV55 dc55 pm55 an55 cd55 ct55),sl55⟩) (c55:W.codeIn K cd55 "_law_names" = true) (k55:W.keepIn K (.ref f55)=true)
  (a56:W.nsIn K mainGlobals "_law_choice_spec" = some (some (.ref f56))) (l56:K.lookup f56=some ⟨oc56,od56,.func (W.fnOf "_law_choice_spec" "_law_choice_spec" (zAL zBp) (zAK zBp) (zAF zBp) .none kV56 dc56 pm56 an56 cd56 ct56),sl56⟩) (c56:W.codeIn K cd56 "_law_choice_spec" = true) (k56:W.keepIn K (.ref f56)=true)
  (a57:W.nsIn K mainGlobals "_law_power" = some (some (.ref f57))) (l57:K.lookup f57=some ⟨oc57,od57,.func (W.fnOf "_law_power" "_law_power" (zAL zDg) (zAK zDg) (zAF zDg) .none kV57 dc57 pm57 an57 cd57 ct57),sl57⟩) (c57:W.codeIn K cd57 "_law_power" = true) (k57:W.keepIn K (.ref f57)=true)
  (a58:W.nsIn K mainGlobals "_law_divisor" = some (some (.ref f58))) (l58:K.lookup f58=some ⟨oc58,od58,.func (W.fnOf "_law_divisor" "_law_divisor" (zAL zCj) (zAK zCj) (zAF zCj) .none kV58 dc58 pm58 an58 cd58 ct58),sl58⟩) (c58:W.codeIn K cd58 "_law_divisor" = true) (k58:W.keepIn K (.ref f58)=true)
  (a59:W.nsIn K mainGlobals "_law_lowest" = some (some (.ref f59))) (l59:K.lookup f59=some ⟨oc59,od59,.func (W.fnOf "_law_lowest" "_law_lowest" (zAL zC5) (zAK zC5) (zAF zC5) .none kV59 dc59 pm59 an59 cd59 ct59),sl59⟩) (c59:W.codeIn K cd59 "_law_lowest" = true) (k59:W.keepIn K (.ref f59)=true)
  (a60:W.nsIn K mainGlobals "_law_figures" = some (some (.ref f60))) (l60:K.lookup f60=some ⟨oc60,od60,.func (W.fnOf "_law_figures" "_law_figures" (zAL zCm) (zAK zCm) (zAF zCm) .none kV60 dc60 pm60 an60 cd60 ct60),sl60⟩) (c60:W.codeIn K cd60 "_law_figures" = true) (k60:W.keepIn K (.ref f60)=true)
  (a61:W.nsIn K mainGlobals "_law_body" = some (some (.ref f61))) (l61:K.lookup f61=some ⟨oc61,od61,.func (W.fnOf "_law_body" "_law_body" (zAL zEP) (zAK zEP) (zAF zEP) .none kV61 dc61 pm61 an61 cd61 ct61),sl61⟩) (c61:W.codeIn K cd61 "_law_body" = true) (k61:W.keepIn K (.ref f61)=true)
  (a62:W.nsIn K mainGlobals "_law_parts" = some (some (.ref f62))) (l62:K.lookup f62=some ⟨oc62,od62,.func (W.fnOf "_law_parts" "_law_parts" (zAL zDi) (zAK zDi) (zAF zDi) .none kV62 dc62 pm62 an62 cd62 ct62),sl62⟩) (c62:W.codeIn K cd62 "_law_parts" = true) (k62:W.keepIn K (.ref f62)=true)
  (a63:W.nsIn K mainGlobals "_law_great" = some (some (.ref f63))) (l63:K.lookup f63=some ⟨oc63,od63,.func (W.fnOf "_law_great" "_law_great" (zAL zDY) (zAK zDY) (zAF zDY) .none kV63 dc63 pm63 an63 cd63 ct63),sl63⟩) (c63:W.codeIn K cd63 "_law_great" = true) (k63:W.keepIn K (.ref f63)=true)
  (a64:W.nsIn K mainGlobals "_law_filled" = some (some (.ref f64))) (l64:K.lookup f64=some ⟨oc64,od64,.func (W.fnOf "_law_filled" "_law_filled" (zAL zDA) (zAK zDA) (zAF zDA) .none kV64 dc64 pm64 an64 cd64 ct64),sl64⟩) (c64:W.codeIn K cd64 "_law_filled" = true) (k64:W.keepIn K (.ref f64)=true)
  (a65:W.nsIn K mainGlobals "_law_steps" = some (some (.ref f65))) (l65:K.lookup f65=some ⟨oc65,od65,.func (W.fnOf "_law_steps" "_law_steps" (zAL zDc) (zAK zDc) (zAF zDc) .none kV65 dc65 pm65 an65 cd65 ct65),sl65⟩) (c65:W.codeIn K cd65 "_law_steps" = true) (k65:W.keepIn K (.ref f65)=true)
  (a66:W.nsIn K mainGlobals "_law_word" = some (some (.ref f66))) (l66:K.lookup f66=some ⟨oc66,od66,.func (W.fnOf "_law_word" "_law_word" (zAL zER) (zAK zER) (zAF zER) .none kV66 dc66 pm66 an66 cd66 ct66),sl66⟩) (c66:W.codeIn K cd66 "_law_word" = true) (k66:W.keepIn K (.ref f66)=true)
  (a67:W.nsIn K mainGlobals "_law_spec" = some (some (.ref f67))) (l67:K.lookup f67=some ⟨oc67,od67,.func (W.fnOf "_law_spec" "_law_spec" (zAL zES) (zAK zES) (zAF zES) .none kV67 dc67 pm67 an67 cd67 ct67),sl67⟩) (c67:W.codeIn K cd67 "_law_spec" = true) (k67:W.keepIn K (.ref f67)=true)
  (a68:W.nsIn K mainGlobals "_law_form" = some (some (.ref f68))) (l68:K.lookup f68=some ⟨oc68,od68,.func (W.fnOf "_law_form" "_law_form" (zAL zET) (zAK zET) (zAF zET) .none kV68 dc68 pm68 an68 cd68 ct68),sl68⟩) (c68:W.codeIn K cd68 "_law_form" = true) (k68:W.keepIn K (.ref f68)=true)
  (a69:W.nsIn K mainGlobals "_law_value" = some (some (.ref f69))) (l69:K.lookup f69=some ⟨oc69,od69,.func (W.fnOf "_law_value" "_law_value" (zAL zDZ) (zAK zDZ) (zAF zDZ) .none kV69 dc69 pm69 an69 cd69 ct69),sl69⟩) (c69:W.codeIn K cd69 "_law_value" = true) (k69:W.keepIn K (.ref f69)=true)
  (a70:W.nsIn K mainGlobals "_law_parts_of" = some (some (.ref f70))) (l70:K.lookup f70=some ⟨oc70,od70,.func (W.fnOf "_law_parts_of" "_law_parts_of" (zAL zCR) (zAK zCR) (zAF zCR) .none kV70 dc70 pm70 an70 cd70 ct70),sl70⟩) (c70:W.codeIn K cd70 "_law_parts_of" = true) (k70:W.keepIn K (.ref f70)=true)
  (a71:W.nsIn K mainGlobals "_law_text" = some (some (.ref f71))) (l71:K.lookup f71=some ⟨oc71,od71,.func (W.fnOf "_law_text" "_law_text" (zAL zEV) (zAK zEV) (zAF zEV) .none kV71 dc71 pm71 an71 cd71 ct71),sl71⟩) (c71:W.codeIn K cd71 "_law_text" = true) (k71:W.keepIn K (.ref f71)=true)
  (a72:W.nsIn K mainGlobals "_law_whole" = some (some (.ref f72))) (l72:K.lookup f72=some ⟨oc72,od72,.func (W.fnOf "_law_whole" "_law_whole" (zAL zDd) (zAK zDd) (zAF zDd) .none kV72 dc72 pm72 an72 cd72 ct72),sl72⟩) (c72:W.codeIn K cd72 "_law_whole" = true) (k72:W.keepIn K (.ref f72)=true)
  (a73:W.nsIn K mainGlobals "_law_fields" = some (some (.ref f73))) (l73:K.lookup f73=some ⟨oc73,od73,.func (W.fnOf "_law_fields" "_law_fields" (zAL zDG) (zAK zDG) (zAF zDG) .none kV73 dc73 pm73 an73 cd73 ct73),sl73⟩) (c73:W.codeIn K cd73 "_law_fields" = true) (k73:W.keepIn K (.ref f73)=true)
  (a74:W.nsIn K mainGlobals "_law_told" = some (some (.ref f74))) (l74:K.lookup f74=some ⟨oc74,od74,.func (W.fnOf "_law_told" "_law_told" (zAL zEH) (zAK zEH) (zAF zEH) .none kV74 dc74 pm74 an74 cd74 ct74),sl74⟩) (c74:W.codeIn K cd74 "_law_told" = true) (k74:W.keepIn K (.ref f74)=true)
  (a75:W.nsIn K mainGlobals "_law_plain" = some (some (.ref f75))) (l75:K.lookup f75=some ⟨oc75,od75,.func (W.fnOf "_law_plain" "_law_plain" (zAL zDf) (zAK zDf) (zAF zDf) .none kV75 dc75 pm75 an75 cd75 ct75),sl75⟩) (c75:W.codeIn K cd75 "_law_plain" = true) (k75:W.keepIn K (.ref f75)=true)
  (a76:W.nsIn K mainGlobals "law" = some (some (.ref f76))) (l76:K.lookup f76=some ⟨oc76,od76,.func (W.fnOf "law" "law" (zAL zLF) (zAK zLF) (zAF zLF) .none kV76 dc76 pm76 an76 cd76 ct76),sl76⟩) (c76:W.codeIn K cd76 "law" = true) (k76:W.keepIn K (.ref f76)=true)
  (z_len:W.nsIn K mainGlobals "len" = some none) (z_range:W.nsIn K mainGlobals "range" = some none) (z_isinstance:W.nsIn K mainGlobals "isinstance" = some none) (z_str:W.nsIn K mainGlobals "str" = some none) (z_max:W.nsIn K mainGlobals "max" = some none) (z_min:W.nsIn K mainGlobals "min" = some none) (z_int:W.nsIn K mainGlobals "int" = some none) (z_bool:W.nsIn K mainGlobals "bool" = some none) (z_abs:W.nsIn K mainGlobals "abs" = some none) (z_list:W.nsIn K mainGlobals "list" = some none) (z_tuple:W.nsIn K mainGlobals "tuple" = some none) (z_all:W.nsIn K mainGlobals "all" = some none) (z_sorted:W.nsIn K mainGlobals "sorted" = some none) (n_FIGURES:W.nsIn K mainGlobals "FIGURES" = some (some (.str "0123456789abcdef" zEf))) (n_STYLES:W.nsIn K mainGlobals "STYLES" = some (some (.ref zF4))) (n_MOST_SIGNS:W.nsIn K mainGlobals "MOST_SIGNS" = some (some (.int 40 zGh))) (n_MOST_FIGURES:W.nsIn K mainGlobals "MOST_FIGURES" = some (some (.int 240 zFK))) (n_NoFigures:W.nsIn K mainGlobals "NoFigures" = some (some (.ref zAp))) (n_NoGroups:W.nsIn K mainGlobals "NoGroups" = some (some (.ref zAy))) (n_NoBody:W.nsIn K mainGlobals "NoBody" = some (some (.ref zA4))) (n_NoCore:W.nsIn K mainGlobals "NoCore" = some (some (.ref zBG))) (n_TooWide:W.nsIn K mainGlobals "TooWide" = some (some (.ref zA1))) (n_Form:W.nsIn K mainGlobals "Form" = some (some (.ref zBS))) (n_NumberForm:W.nsIn K mainGlobals "NumberForm" = some (some (.ref zAB))) (n_WordForm:W.nsIn K mainGlobals "WordForm" = some (some (.ref zAD))) (n_ChoiceForm:W.nsIn K mainGlobals "ChoiceForm" = some (some (.ref zAC))) (ex_NoFigures:W.excIn K zAp VEB "ValueError.__new__" = true) (h1_NoFigures:W.findIn K (.ref zAp) "__getattribute__" = some (some (.builtin "BaseException.__getattribute__"))) (h2_NoFigures:W.findIn K (.ref zAp) "__getattr__" = some none) (hb_NoFigures:W.mroIn K zAp (.type "BaseException")=some true) (hd_NoFigures:W.hasDictIn K zAp=true) (ha_NoFigures:W.findIn K (.ref zAp) "__class__" = some (some (.builtin "object.__class__"))) (hn_NoFigures:W.specialIn K (.builtin "object.__class__") "__get__" = some (some (.builtin "getset_descriptor.__get__"))) (ht_NoFigures:W.takesIn K (.builtin "object.__class__")=some true) (hm_NoFigures:W.mroIn K zAp (.type "object")=some true) (ex_NoGroups:W.excIn K zAy VEB "ValueError.__new__" = true) (h1_NoGroups:W.findIn K (.ref zAy) "__getattribute__" = some (some (.builtin "BaseException.__getattribute__"))) (h2_NoGroups:W.findIn K (.ref zAy) "__getattr__" = some none) (hb_NoGroups:W.mroIn K zAy (.type "BaseException")=some true) (hd_NoGroups:W.hasDictIn K zAy=true) (ha_NoGroups:W.findIn K (.ref zAy) "__class__" = some (some (.builtin "object.__class__"))) (hn_NoGroups:W.specialIn K (.builtin "object.__class__") "__get__" = some (some (.builtin "getset_descriptor.__get__"))) (ht_NoGroups:W.takesIn K (.builtin "object.__class__")=some true) (hm_NoGroups:W.mroIn K zAy (.type "object")=some true) (ex_NoBody:W.excIn K zA4 VEB "ValueError.__new__" = true) (h1_NoBody:W.findIn K (.ref zA4) "__getattribute__" = some (some (.builtin "BaseException.__getattribute__"))) (h2_NoBody:W.findIn K (.ref zA4) "__getattr__" = some none) (hb_NoBody:W.mroIn K zA4 (.type "BaseException")=some true) (hd_NoBody:W.hasDictIn K zA4=true) (ha_NoBody:W.findIn K (.ref zA4) "__class__" = some (some (.builtin "object.__class__"))) (hn_NoBody:W.specialIn K (.builtin "object.__class__") "__get__" = some (some (.builtin "getset_descriptor.__get__"))) (ht_NoBody:W.takesIn K (.builtin "object.__class__")=some true) (hm_NoBody:W.mroIn K zA4 (.type "object")=some true) (ex_NoCore:W.excIn K zBG VEB "ValueError.__new__" = true) (h1_NoCore:W.findIn K (.ref zBG) "__getattribute__" = some (some (.builtin "BaseException.__getattribute__"))) (h2_NoCore:W.findIn K (.ref zBG) "__getattr__" = some none) (hb_NoCore:W.mroIn K zBG (.type "BaseException")=some true) (hd_NoCore:W.hasDictIn K zBG=true) (ha_NoCore:W.findIn K (.ref zBG) "__class__" = some (some (.builtin "object.__class__"))) (hn_NoCore:W.specialIn K (.builtin "object.__class__") "__get__" = some (some (.builtin "getset_descriptor.__get__"))) (ht_NoCore:W.takesIn K (.builtin "object.__class__")=some true) (hm_NoCore:W.mroIn K zBG (.type "object")=some true) (ex_TooWide:W.excIn K zA1 VEB "ValueError.__new__" = true) (h1_TooWide:W.findIn K (.ref zA1) "__getattribute__" = some (some (.builtin "BaseException.__getattribute__"))) (h2_TooWide:W.findIn K (.ref zA1) "__getattr__" = some none) (hb_TooWide:W.mroIn K zA1 (.type "BaseException")=some true) (hd_TooWide:W.hasDictIn K zA1=true) (ha_TooWide:W.findIn K (.ref zA1) "__class__" = some (some (.builtin "object.__class__"))) (hn_TooWide:W.specialIn K (.builtin "object.__class__") "__get__" = some (some (.builtin "getset_descriptor.__get__"))) (ht_TooWide:W.takesIn K (.builtin "object.__class__")=some true) (hm_TooWide:W.mroIn K zA1 (.type "object")=some true) (sty:Sty w K zF4) (xg:W.exmAny K (.ref zAy) [.ref zAy,.ref zAp]=some true) (xf:W.exmAny K (.ref zAp) [.ref zAy,.ref zAp]=some true) (xc:W.exmAny K (.ref zBG) [.ref zBG,.ref zA4]=some true) (xb:W.exmAny K (.ref zA4) [.ref zBG,.ref zA4]=some true) (xw:W.exmOne K (.ref zA1) (.ref zA1)=some true) (ihn:W.specialIn K (.builtin "object.__class__") "__get__" = some (some (.builtin "getset_descriptor.__get__"))) (iht:W.takesIn K (.builtin "object.__class__")=some true) (nha:W.findIn K (.ref zAB) "__class__" = some (some (.builtin "object.__class__"))) (nhm:W.mroIn K zAB (.type "object")=some true) (nk1:W.kitOne K (.ref zAB) (.ref zAB)=some true) (nk2:W.kitOne K (.ref zAB) (.ref zAD)=some false) (nk3:W.kitOne K (.ref zAB) (.ref zAC)=some false) (nk4:W.kitOne K (.ref zAB) (.ref zBS)=some true) (wha:W.findIn K (.ref zAD) "__class__" = some (some (.builtin "object.__class__"))) (whm:W.mroIn K zAD (.type "object")=some true) (wk1:W.kitOne K (.ref zAD) (.ref zAB)=some false) (wk2:W.kitOne K (.ref zAD) (.ref zAD)=some true) (wk3:W.kitOne K (.ref zAD) (.ref zAC)=some false) (wk4:W.kitOne K (.ref zAD) (.ref zBS)=some true) (cha:W.findIn K (.ref zAC) "__class__" = some (some (.builtin "object.__class__"))) (chm:W.mroIn K zAC (.type "object")=some true) (ck1:W.kitOne K (.ref zAC) (.ref zAB)=some false) (ck2:W.kitOne K (.ref zAC) (.ref zAD)=some false) (ck3:W.kitOne K (.ref zAC) (.ref zAC)=some true) (ck4:W.kitOne K (.ref zAC) (.ref zBS)=some true) (K1_NumberForm:W.plainGet K zAB Str.empty=true) (K2_NumberForm:W.hasDictIn K zAB=true) (K3_NumberForm:W.plainOver K zAB=true) (K4_NumberForm:W.findIn K (.ref zAB) "__setattr__" = some (some (.builtin "object.__setattr__"))) (N_NumberForm_width:W.findIn K (.ref zAB) "width" = some none) (N_NumberForm_fill:W.findIn K (.ref zAB) "fill" = some none) (N_NumberForm_side:W.findIn K (.ref zAB) "side" = some none) (N_NumberForm_strict:W.findIn K (.ref zAB) "strict" = some none) (N_NumberForm_figures:W.findIn K (.ref zAB) "figures" = some none) (N_NumberForm_places:W.findIn K (.ref zAB) "places" = some none) (N_NumberForm_base:W.findIn K (.ref zAB) "base" = some none) (N_NumberForm_sign:W.findIn K (.ref zAB) "sign" = some none) (N_NumberForm_size:W.findIn K (.ref zAB) "size" = some none) (N_NumberForm_mark:W.findIn K (.ref zAB) "mark" = some none) (N_NumberForm_point:W.findIn K (.ref zAB) "point" = some none) (N_NumberForm_way:W.findIn K (.ref zAB) "way" = some none) (K1_WordForm:W.plainGet K zAD Str.empty=true) (K2_WordForm:W.hasDictIn K zAD=true) (K3_WordForm:W.plainOver K zAD=true) (K4_WordForm:W.findIn K (.ref zAD) "__setattr__" = some (some (.builtin "object.__setattr__"))) (N_WordForm_width:W.findIn K (.ref zAD) "width" = some none) (N_WordForm_fill:W.findIn K (.ref zAD) "fill" = some none) (N_WordForm_side:W.findIn K (.ref zAD) "side" = some none) (N_WordForm_strict:W.findIn K (.ref zAD) "strict" = some none) (N_WordForm_signs:W.findIn K (.ref zAD) "signs" = some none) (N_WordForm_least:W.findIn K (.ref zAD) "least" = some none) (N_WordForm_most:W.findIn K (.ref zAD) "most" = some none) (K1_ChoiceForm:W.plainGet K zAC Str.empty=true) (K2_ChoiceForm:W.hasDictIn K zAC=true) (K3_ChoiceForm:W.plainOver K zAC=true) (K4_ChoiceForm:W.findIn K (.ref zAC) "__setattr__" = some (some (.builtin "object.__setattr__"))) (N_ChoiceForm_width:W.findIn K (.ref zAC) "width" = some none) (N_ChoiceForm_fill:W.findIn K (.ref zAC) "fill" = some none) (N_ChoiceForm_side:W.findIn K (.ref zAC) "side" = some none) (N_ChoiceForm_strict:W.findIn K (.ref zAC) "strict" = some none) (N_ChoiceForm_names:W.findIn K (.ref zAC) "names" = some none) (C1_Form_init:W.specialIn K (.ref zBS) "__getattribute__" = some (some (.builtin "type.__getattribute__"))) (C2_Form_init:W.readsIn K zBS (.type "type")=true) (C3_Form_init:W.findCls K (.ref zBS) (.type "type") "__init__" = some (.val (.ref f22))) (Fn_NumberForm_is_too_great:W.isFn K (.ref f26)=true) (Ma_NumberForm_is_too_great:W.findIn K (.ref zAB) "is_too_great" = some (some (.ref f26))) (Fn_NumberForm_lead_of:W.isFn K (.ref f30)=true) (Ma_NumberForm_lead_of:W.findIn K (.ref zAB) "lead_of" = some (some (.ref f30))) (Fn_WordForm_is_word:W.isFn K (.ref f32)=true) (Ma_WordForm_is_word:W.findIn K (.ref zAD) "is_word" = some (some (.ref f32))) (Fn_NumberForm_core:W.isFn K (.ref f27)=true) (Ma_NumberForm_core:W.findIn K (.ref zAB) "core" = some (some (.ref f27))) (Fn_WordForm_core:W.isFn K (.ref f33)=true) (Ma_WordForm_core:W.findIn K (.ref zAD) "core" = some (some (.ref f33))) (Fn_ChoiceForm_core:W.isFn K (.ref f34)=true) (Ma_ChoiceForm_core:W.findIn K (.ref zAC) "core" = some (some (.ref f34))) (Fn_Form_is_too_wide:W.isFn K (.ref f28)=true) (Ma_NumberForm_is_too_wide:W.findIn K (.ref zAB) "is_too_wide" = some (some (.ref f28))) (Ma_WordForm_is_too_wide:W.findIn K (.ref zAD) "is_too_wide" = some (some (.ref f28))) (Ma_ChoiceForm_is_too_wide:W.findIn K (.ref zAC) "is_too_wide" = some (some (.ref f28))) (Fn_Form_filled:W.isFn K (.ref f31)=true) (Ma_NumberForm_filled:W.findIn K (.ref zAB) "filled" = some (some (.ref f31))) (Ma_WordForm_filled:W.findIn K (.ref zAD) "filled" = some (some (.ref f31))) (Ma_ChoiceForm_filled:W.findIn K (.ref zAC) "filled" = some (some (.ref f31))) (Fn_Form_unfilled:W.isFn K (.ref f37)=true) (Ma_NumberForm_unfilled:W.findIn K (.ref zAB) "unfilled" = some (some (.ref f37))) (Fn_NumberForm_number_with:W.isFn K (.ref f40)=true) (Ma_NumberForm_number_with:W.findIn K (.ref zAB) "number_with" = some (some (.ref f40))) (Fn_NumberForm_cores_in:W.isFn K (.ref f42)=true) (Ma_NumberForm_cores_in:W.findIn K (.ref zAB) "cores_in" = some (some (.ref f42))) (Fn_NumberForm_numbers_in:W.isFn K (.ref f43)=true) (Ma_NumberForm_numbers_in:W.findIn K (.ref zAB) "numbers_in" = some (some (.ref f43))) (Ma_ChoiceForm_unfilled:W.findIn K (.ref zAC) "unfilled" = some (some (.ref f37))) (Ma_WordForm_unfilled:W.findIn K (.ref zAD) "unfilled" = some (some (.ref f37))) (Fn_NumberForm___init__:W.isFn K (.ref f25)=true) (I1_NumberForm:W.makesIn K zAB=true) (I2_NumberForm:W.findIn K (.ref zAB) "__init__" = some (some (.ref f25))) (I4_NumberForm:W.keepIn K (.ref zAB)=true) (Fn_WordForm___init__:W.isFn K (.ref f23)=true) (I1_WordForm:W.makesIn K zAD=true) (I2_WordForm:W.findIn K (.ref zAD) "__init__" = some (some (.ref f23))) (I4_WordForm:W.keepIn K (.ref zAD)=true) (Fn_ChoiceForm___init__:W.isFn K (.ref f24)=true) (I1_ChoiceForm:W.makesIn K zAC=true) (I2_ChoiceForm:W.findIn K (.ref zAC) "__init__" = some (some (.ref f24))) (I4_ChoiceForm:W.keepIn K (.ref zAC)=true) (Fn_Form_put:W.isFn K (.ref f35)=true) (Ma_NumberForm_put:W.findIn K (.ref zAB) "put" = some (some (.ref f35))) (Ma_WordForm_put:W.findIn K (.ref zAD) "put" = some (some (.ref f35))) (Ma_ChoiceForm_put:W.findIn K (.ref zAC) "put" = some (some (.ref f35))) (Fn_NumberForm_widened:W.isFn K (.ref f47)=true) (Ma_NumberForm_widened:W.findIn K (.ref zAB) "widened" = some (some (.ref f47))) (Fn_WordForm_widened:W.isFn K (.ref f48)=true) (Ma_WordForm_widened:W.findIn K (.ref zAD) "widened" = some (some (.ref f48))) (Fn_ChoiceForm_widened:W.isFn K (.ref f49)=true) (Ma_ChoiceForm_widened:W.findIn K (.ref zAC) "widened" = some (some (.ref f49))) (Fn_NumberForm_values_for:W.isFn K (.ref f44)=true) (Ma_NumberForm_values_for:W.findIn K (.ref zAB) "values_for" = some (some (.ref f44))) (Fn_WordForm_values_for:W.isFn K (.ref f46)=true) (Ma_WordForm_values_for:W.findIn K (.ref zAD) "values_for" = some (some (.ref f46))) (Fn_ChoiceForm_values_for:W.isFn K (.ref f45)=true) (Ma_ChoiceForm_values_for:W.findIn K (.ref zAC) "values_for" = some (some (.ref f45))) (dl23:K.lookup tD23=some ⟨ocD23,odD23,.seq #[d23v0,d23v1,d23v2,d23v3] nD23,slD23⟩) (dl24:K.lookup tD24=some ⟨ocD24,odD24,.seq #[d24v0,d24v1,d24v2,d24v3] nD24,slD24⟩) (dl25:K.lookup tD25=some ⟨ocD25,odD25,.seq #[d25v0,d25v1,d25v2,d25v3,d25v4,d25v5,d25v6,d25v7,d25v8,d25v9] nD25,slD25⟩) (rv24_0:RelV (.int 0) d24v0) (rv24_1:RelV (.str (T [32])) d24v1) (rv24_2:RelV (.str "left") d24v2) (rv24_3:RelV (.bl false) d24v3) (rv25_0:RelV (.int 10) d25v0) (rv25_1:RelV (.str "minus") d25v1) (rv25_2:RelV (.int 0) d25v2) (rv25_3:RelV (.str (T [44])) d25v3) (rv25_4:RelV (.str (T [46])) d25v4) (rv25_5:RelV (.str "near") d25v5) (rv25_6:RelV (.int 0) d25v6) (rv25_7:RelV (.str (T [32])) d25v7) (rv25_8:RelV (.str "right") d25v8) (rv25_9:RelV (.bl false) d25v9) (rv23_0:RelV (.int 0) d23v0) (rv23_1:RelV (.str (T [32])) d23v1) (rv23_2:RelV (.str "left") d23v2) (rv23_3:RelV (.bl false) d23v3) :
  ∃ fd:FuncData,(∀ (s:Shared) (v:Value),BindsTo s fd ⟨[v],[]⟩ [("_law_script", v)]) ∧ ∀ base:Heap,K.In base→base.Ns mainGlobals mg→FnOk l.prog w K mg base CX0 8 fa fd ["_law_script"] (zNv K):=by
 have e:=hfa.symm.trans (W.mg_of X G a76)
 cases e
 have B:Blt mg:=⟨W.mg_none_of X G z_len,W.mg_none_of X G z_range,W.mg_none_of X G z_isinstance,W.mg_none_of X G z_str,W.mg_none_of X G z_max,W.mg_none_of X G z_min,W.mg_none_of X G z_int,W.mg_none_of X G z_bool,W.mg_none_of X G z_abs,W.mg_none_of X G z_list,W.mg_none_of X G z_tuple,W.mg_none_of X G z_all,W.mg_none_of X G z_sorted⟩
 refine ⟨W.fnOf "law" "law" (zAL zLF) (zAK zLF) (zAF zLF) .none kV76 dc76 pm76 an76 cd76 ct76,fun s v=>.of_eq rfl,fun base _ _=>?_⟩
 have zCc:=W.mg_of X G n_FIGURES
 have zJP:=W.mg_of X G n_STYLES
 have zGr:=W.mg_of X G n_MOST_SIGNS
 have zFE:=W.mg_of X G n_MOST_FIGURES
 have zC2:=W.mg_of X G n_NoFigures
 have zEO:=W.mg_of X G n_NoGroups
 have zDu:=W.mg_of X G n_NoBody
 have zG9:=W.mg_of X G n_NoCore
 have zFk:=W.mg_of X G n_TooWide
 have zEh:=W.mg_of X G n_Form
 have zBW:=W.mg_of X G n_NumberForm
 have zBz:=W.mg_of X G n_WordForm
 have zBU:=W.mg_of X G n_ChoiceForm
 have zFt:Exc K zAp:=⟨ex_NoFigures,h1_NoFigures,h2_NoFigures,hb_NoFigures,hd_NoFigures,ha_NoFigures,hn_NoFigures,ht_NoFigures,hm_NoFigures⟩
 have zId:Exc K zAy:=⟨ex_NoGroups,h1_NoGroups,h2_NoGroups,hb_NoGroups,hd_NoGroups,ha_NoGroups,hn_NoGroups,ht_NoGroups,hm_NoGroups⟩
 have zGI:Exc K zA4:=⟨ex_NoBody,h1_NoBody,h2_NoBody,hb_NoBody,hd_NoBody,ha_NoBody,hn_NoBody,ht_NoBody,hm_NoBody⟩
 have zK6:Exc K zBG:=⟨ex_NoCore,h1_NoCore,h2_NoCore,hb_NoCore,hd_NoCore,ha_NoCore,hn_NoCore,ht_NoCore,hm_NoCore⟩
 have zJe:Exc K zA1:=⟨ex_TooWide,h1_TooWide,h2_TooWide,hb_TooWide,hd_TooWide,ha_TooWide,hn_TooWide,ht_TooWide,hm_TooWide⟩
 have zAM:Cls K zAB:=⟨K1_NumberForm,K2_NumberForm,K3_NumberForm,K4_NumberForm⟩
 have zED:zBw K zAB ["width", "fill", "side", "strict", "figures", "places", "base", "sign", "size", "mark", "point", "way"]:=⟨N_NumberForm_width,N_NumberForm_fill,N_NumberForm_side,N_NumberForm_strict,N_NumberForm_figures,N_NumberForm_places,N_NumberForm_base,N_NumberForm_sign,N_NumberForm_size,N_NumberForm_mark,N_NumberForm_point,N_NumberForm_way,trivial⟩
 have zAb:Cls K zAD:=⟨K1_WordForm,K2_WordForm,K3_WordForm,K4_WordForm⟩
 have zFw:zBw K zAD ["width", "fill", "side", "strict", "signs", "least", "most"]:=⟨N_WordForm_width,N_WordForm_fill,N_WordForm_side,N_WordForm_strict,N_WordForm_signs,N_WordForm_least,N_WordForm_most,trivial⟩
 have zAY:Cls K zAC:=⟨K1_ChoiceForm,K2_ChoiceForm,K3_ChoiceForm,K4_ChoiceForm⟩
 have zEB:zBw K zAC ["width", "fill", "side", "strict", "names"]:=⟨N_ChoiceForm_width,N_ChoiceForm_fill,N_ChoiceForm_side,N_ChoiceForm_strict,N_ChoiceForm_names,trivial⟩
 have F0:=zA0 (st:=zCk) l0 c0 k0
 have zHy:Has l.prog w K mg base "_law_cell_at" 1 ["_law_script", "_law_k"] (zCv K):=⟨_,_,zKO  F0 B   , W.mg_of X G a0,k0,F0.binds fun _ _ _ _ _ _=>(lenS fun _=>lenS fun _=>len0 (rfl))⟩
 have F1:=zA0 (st:=zEN) l1 c1 k1
 have zCS:Has l.prog w K mg base "_law_pick" 1 ["_law_cell", "_law_salt", "_law_many"] (zBa K):=⟨_,_,zNf  F1 B   , W.mg_of X G a1,k1,F1.binds fun _ _ _ _ _ _=>(lenS fun _=>lenS fun _=>lenS fun _=>len0 (rfl))⟩
 have F2:=zA0 (st:=zFc) l2 c2 k2
 have zL2:Has l.prog w K mg base "pads_of" 1 ["length", "width", "side"] (zFm K):=⟨_,_,zO2  F2 B   , W.mg_of X G a2,k2,F2.binds fun _ _ _ _ _ _=>(lenS fun _=>lenS fun _=>lenS fun _=>len0 (rfl))⟩
 have F3:=zA0 (st:=zHA) l3 c3 k3
 have zLB:Has l.prog w K mg base "padded" 2 ["text", "width", "fill", "side"] (zFn K):=⟨_,_,zPZ  F3 B zL2  , W.mg_of X G a3,k3,F3.binds fun _ _ _ _ _ _=>(lenS fun _=>lenS fun _=>lenS fun _=>lenS fun _=>len0 (rfl))⟩
 have F4:=zA0 (st:=zEU) l4 c4 k4
 have zIW:Has l.prog w K mg base "power_of" 1 ["base", "times"] (zDX K):=⟨_,_,zNh  F4 B   , W.mg_of X G a4,k4,F4.binds fun _ _ _ _ _ _=>(lenS fun _=>lenS fun _=>len0 (rfl))⟩
 have F5:=zA0 (st:=zFh) l5 c5 k5
 have zQA:Has l.prog w K mg base "goes_up" 1 ["below", "rest", "bottom", "way"] (zHC K):=⟨_,_,zOb  F5 B   , W.mg_of X G a5,k5,F5.binds fun _ _ _ _ _ _=>(lenS fun _=>lenS fun _=>lenS fun _=>lenS fun _=>len0 (rfl))⟩
 have F6:=zA0 (st:=zFg) l6 c6 k6
 have zPj:Has l.prog w K mg base "gridded" 2 ["value", "base", "places", "way"] (zG1 K):=⟨_,_,zOQ  F6 B zIW zQA  , W.mg_of X G a6,k6,F6.binds fun _ _ _ _ _ _=>(lenS fun _=>lenS fun _=>lenS fun _=>lenS fun _=>len0 (rfl))⟩
 have F7:=zA0 (st:=zDC) l7 c7 k7
 have zLr:Has l.prog w K mg base "figures_of" 1 ["number", "base"] (zEF K):=⟨_,_,zKm  F7 B  zCc , W.mg_of X G a7,k7,F7.binds fun _ _ _ _ _ _=>(lenS fun _=>lenS fun _=>len0 (rfl))⟩
 have F8:=zA0 (st:=zEJ) l8 c8 k8
 have zKk:Has l.prog w K mg base "parts_of" 1 ["text", "size", "between"] (zEg K):=⟨_,_,zNG  F8 B   , W.mg_of X G a8,k8,F8.binds fun _ _ _ _ _ _=>(lenS fun _=>lenS fun _=>lenS fun _=>len0 (rfl))⟩
 have F9:=zA0 (st:=zFZ) l9 c9 k9
 have zL9:Has l.prog w K mg base "grouped" 2 ["text", "size", "mark"] (zFd K):=⟨_,_,zOi  F9 B zKk  , W.mg_of X G a9,k9,F9.binds fun _ _ _ _ _ _=>(lenS fun _=>lenS fun _=>lenS fun _=>len0 (rfl))⟩
 have F10:=zA0 (st:=zFX) l10 c10 k10
 have zQb:Has l.prog w K mg base "body_of" 3 ["number", "base", "places", "point", "size", "mark"] (zHB K):=⟨_,_,zOV  F10 B zL9 zLr  , W.mg_of X G a10,k10,F10.binds fun _ _ _ _ _ _=>(lenS fun _=>lenS fun _=>lenS fun _=>lenS fun _=>lenS fun _=>lenS fun _=>len0 (rfl))⟩
 have F11:=zA0 (st:=zFb) l11 c11 k11
 have zIA:Has l.prog w K mg base "ends_of" 1 ["style", "below"] (zDm K):=⟨_,_,zO1  F11 B  zJP sty,W.mg_of X G a11,k11,F11.binds fun _ _ _ _ _ _=>(lenS fun _=>lenS fun _=>len0 (rfl))⟩
 have F12:=zA0 (st:=zG3) l12 c12 k12
 have zN3:Has l.prog w K mg base "signed" 2 ["body", "style", "below"] (zGw K):=⟨_,_,zPp  F12 B zIA  , W.mg_of X G a12,k12,F12.binds fun _ _ _ _ _ _=>(lenS fun _=>lenS fun _=>lenS fun _=>len0 (rfl))⟩
 have F13:=zA0 (st:=zA9) l13 c13 k13
 have zFi:Has l.prog w K mg base "stands_between_figures" 1 ["body"] (zBb K):=⟨_,_,zFF  F13 B  zCc , W.mg_of X G a13,k13,F13.binds fun _ _ _ _ _ _=>(lenS fun _=>len0 (rfl))⟩
 have F14:=zA0 (st:=zEK) l14 c14 k14
 have zKj:=zNb (P:=l.prog) (w:=w) (base:=base)  F14 B zIA zFi zN3  zG9 zK6 n_NoCore
 have zPE:HasX l.prog w K mg base "unsigned" 3 ["core", "style"] (zDa K):=⟨_,_,zKj,W.mg_of X G a14,k14,F14.binds fun _ _ _ _ _ _=>(lenS fun _=>lenS fun _=>len0 (rfl))⟩
 have zMt:Has l.prog w K mg base "unsigned" 3 ["core", "style"] (spc (zDa K)):=⟨_,_,zKj.calm,W.mg_of X G a14,k14,F14.binds fun _ _ _ _ _ _=>(lenS fun _=>lenS fun _=>len0 (rfl))⟩
 have F15:=zA0 (st:=zEQ) l15 c15 k15
 have zKh:Has l.prog w K mg base "is_whole" 1 ["thing"] (zEe K):=⟨_,_,zMj  F15 B   , W.mg_of X G a15,k15,F15.binds fun _ _ _ _ _ _=>(lenS fun _=>len0 (rfl))⟩
 have F16:=zA0 (st:=zBy) l16 c16 k16
 have zGT:Has l.prog w K mg base "common_divisor" 1 ["one", "other"] (zCJ K):=⟨_,_,zIb  F16 B   , W.mg_of X G a16,k16,F16.binds fun _ _ _ _ _ _=>(lenS fun _=>lenS fun _=>len0 (rfl))⟩
 have F17:=zA0 (st:=zCl) l17 c17 k17
 have zKp:Has l.prog w K mg base "is_fraction" 2 ["thing"] (zDw K):=⟨_,_,zKI  F17 B zKh zGT  , W.mg_of X G a17,k17,F17.binds fun _ _ _ _ _ _=>(lenS fun _=>len0 (rfl))⟩
 have F18:=zA0 (st:=zDo) l18 c18 k18
 have zJp:=zLv (P:=l.prog) (w:=w) (base:=base)  F18 B zKk zL9 zGr zEO zId n_NoGroups
 have zNO:zQz l.prog w K mg base "ungrouped" 3 ["text", "size", "mark"] (zEt K):=⟨_,_,zJp,W.mg_of X G a18,k18,F18.binds fun _ _ _ _ _ _=>(lenS fun _=>lenS fun _=>lenS fun _=>len0 (rfl))⟩
 have zSV:Has l.prog w K mg base "ungrouped" 3 ["text", "size", "mark"] (spc (zEt K)):=⟨_,_,zJp.of2.calm,W.mg_of X G a18,k18,F18.binds fun _ _ _ _ _ _=>(lenS fun _=>lenS fun _=>lenS fun _=>len0 (rfl))⟩
 have F19:=zA0 (st:=zDn) l19 c19 k19
 have zJi:=zLd (P:=l.prog) (w:=w) (base:=base)  F19 B  zFE zCc zC2 zFt n_NoFigures
 have zNS:zQz l.prog w K mg base "number_of" 1 ["text", "base"] (zEz K):=⟨_,_,zJi,W.mg_of X G a19,k19,F19.binds fun _ _ _ _ _ _=>(lenS fun _=>lenS fun _=>len0 (rfl))⟩
 have zSa:Has l.prog w K mg base "number_of" 1 ["text", "base"] (spc (zEz K)):=⟨_,_,zJi.of2.calm,W.mg_of X G a19,k19,F19.binds fun _ _ _ _ _ _=>(lenS fun _=>lenS fun _=>len0 (rfl))⟩
 have F20:=zA0 (st:=zDe) l20 c20 k20
 have zJ3:=zMN (P:=l.prog) (w:=w) (base:=base)  F20 B   zDu zGI n_NoBody
 have zMv:HasX l.prog w K mg base "whole_end" 1 ["body", "places", "point"] (zFA K):=⟨_,_,zJ3,W.mg_of X G a20,k20,F20.binds fun _ _ _ _ _ _=>(lenS fun _=>lenS fun _=>lenS fun _=>len0 (rfl))⟩
 have zSW:Has l.prog w K mg base "whole_end" 1 ["body", "places", "point"] (spc (zFA K)):=⟨_,_,zJ3.calm,W.mg_of X G a20,k20,F20.binds fun _ _ _ _ _ _=>(lenS fun _=>lenS fun _=>lenS fun _=>len0 (rfl))⟩
 have F21:=zA0 (st:=zDr) l21 c21 k21
 have zJd:=zMZ (P:=l.prog) (w:=w) (base:=base)  F21 B zMv zNO zNS  zEO zC2 zDu zGI n_NoGroups n_NoFigures n_NoBody xg xf
 have zNa:HasX l.prog w K mg base "number_in" 4 ["body", "base", "places", "point", "size", "mark"] (zE1 K):=⟨_,_,zJd,W.mg_of X G a21,k21,F21.binds fun _ _ _ _ _ _=>(lenS fun _=>lenS fun _=>lenS fun _=>lenS fun _=>lenS fun _=>lenS fun _=>len0 (rfl))⟩
 have zSb:Has l.prog w K mg base "number_in" 4 ["body", "base", "places", "point", "size", "mark"] (spc (zE1 K)):=⟨_,_,zJd.calm,W.mg_of X G a21,k21,F21.binds fun _ _ _ _ _ _=>(lenS fun _=>lenS fun _=>lenS fun _=>lenS fun _=>lenS fun _=>lenS fun _=>len0 (rfl))⟩
 have F22:=zBs (x:="__init__") (qual:="Form.__init__") (st:=zBL) l22 c22 k22
 have zEZ:=zI6 (P:=l.prog) (w:=w) (base:=base)  F22 B
 have zEj:zB7 K (W.fnOf "__init__" "Form.__init__" (zAL zBL) (zAK zBL) (zAF zBL) .none kV22 dc22 pm22 an22 cd22 ct22) ["self", "width", "fill", "side", "strict"] []:=.all (lenS fun _=>lenS fun _=>lenS fun _=>lenS fun _=>lenS fun _=>len0 (rfl))
 have F23:=zBs (x:="__init__") (qual:="WordForm.__init__") (st:=zAk) l23 c23 k23
 have zC4:=zHL (P:=l.prog) (w:=w) (base:=base) (zBS:=zBS) (zAD:=zAD) F23 B zEh   ⟨_,_,zEZ,⟨C1_Form_init,C2_Form_init,C3_Form_init,k22⟩,zEj⟩  zAb zFw
 have zEX:zB7 K (W.fnOf "__init__" "WordForm.__init__" (zAL zAk) (zAK zAk) (zAF zAk) (.ref tD23) kV23 dc23 pm23 an23 cd23 ct23) ["self", "signs", "least", "most", "width", "fill", "side", "strict"] []:=zIc dl23 rfl (lenS fun _=>lenS fun _=>lenS fun _=>lenS fun _=>lenS fun _=>lenS fun _=>lenS fun _=>lenS fun _=>len0 (⟨_,rfl,rfl⟩))
 have zF2:zIz K (W.fnOf "__init__" "WordForm.__init__" (zAL zAk) (zAK zAk) (zAF zAk) (.ref tD23) kV23 dc23 pm23 an23 cd23 ct23) ["self", "signs", "least", "most", "width", "fill", "side", "strict"] [] (kA 4 0 [.inl 0,.inl 1,.inl 2,.inl 3,.inr d23v0,.inr d23v1,.inr d23v2,.inr d23v3]) (kA 4 0 [.inl 0,.inl 1,.inl 2,.inl 3,.inr (.int 0),.inr (.str (T [32])),.inr (.str "left"),.inr (.bl false)]):=zMn dl23 rfl (.pos 0 (.pos 1 (.pos 2 (.pos 3 (.dv rv23_0 (.dv rv23_1 (.dv rv23_2 (.dv rv23_3 (.nil))))))))) (len2 (lenS fun _=>lenS fun _=>lenS fun _=>lenS fun _=>len0 (len0 (⟨_,rfl,by kernel_rfl⟩))))
 have F24:=zBs (x:="__init__") (qual:="ChoiceForm.__init__") (st:=zAd) l24 c24 k24
 have zCh:=zGY (P:=l.prog) (w:=w) (base:=base) (zBS:=zBS) (zAC:=zAC) F24 B zEh   ⟨_,_,zEZ,⟨C1_Form_init,C2_Form_init,C3_Form_init,k22⟩,zEj⟩  zAY zEB
 have zDx:zB7 K (W.fnOf "__init__" "ChoiceForm.__init__" (zAL zAd) (zAK zAd) (zAF zAd) (.ref tD24) kV24 dc24 pm24 an24 cd24 ct24) ["self", "names", "width", "fill", "side", "strict"] []:=zIc dl24 rfl (lenS fun _=>lenS fun _=>lenS fun _=>lenS fun _=>lenS fun _=>lenS fun _=>len0 (⟨_,rfl,rfl⟩))
 have zFI:zIz K (W.fnOf "__init__" "ChoiceForm.__init__" (zAL zAd) (zAK zAd) (zAF zAd) (.ref tD24) kV24 dc24 pm24 an24 cd24 ct24) ["self", "names", "width", "fill", "side", "strict"] [] (kA 2 0 [.inl 0,.inl 1,.inr d24v0,.inr d24v1,.inr d24v2,.inr d24v3]) (kA 2 0 [.inl 0,.inl 1,.inr (.int 0),.inr (.str (T [32])),.inr (.str "left"),.inr (.bl false)]):=zMn dl24 rfl (.pos 0 (.pos 1 (.dv rv24_0 (.dv rv24_1 (.dv rv24_2 (.dv rv24_3 (.nil))))))) (len2 (lenS fun _=>lenS fun _=>len0 (len0 (⟨_,rfl,by kernel_rfl⟩))))
 have F25:=zBs (x:="__init__") (qual:="NumberForm.__init__") (st:=zAc) l25 c25 k25
 have zCf:=zGZ (P:=l.prog) (w:=w) (base:=base) (zBS:=zBS) (zAB:=zAB) F25 B zEh   ⟨_,_,zEZ,⟨C1_Form_init,C2_Form_init,C3_Form_init,k22⟩,zEj⟩  zAM zED
 have zDz:zB7 K (W.fnOf "__init__" "NumberForm.__init__" (zAL zAc) (zAK zAc) (zAF zAc) (.ref tD25) kV25 dc25 pm25 an25 cd25 ct25) ["self", "figures", "places", "base", "sign", "size", "mark", "point", "way", "width", "fill", "side", "strict"] []:=zIc dl25 rfl (lenS fun _=>lenS fun _=>lenS fun _=>lenS fun _=>lenS fun _=>lenS fun _=>lenS fun _=>lenS fun _=>lenS fun _=>lenS fun _=>lenS fun _=>lenS fun _=>lenS fun _=>len0 (⟨_,rfl,rfl⟩))
 have zFH:zIz K (W.fnOf "__init__" "NumberForm.__init__" (zAL zAc) (zAK zAc) (zAF zAc) (.ref tD25) kV25 dc25 pm25 an25 cd25 ct25) ["self", "figures", "places", "base", "sign", "size", "mark", "point", "way", "width", "fill", "side", "strict"] [] (kA 3 0 [.inl 0,.inl 1,.inl 2,.inr d25v0,.inr d25v1,.inr d25v2,.inr d25v3,.inr d25v4,.inr d25v5,.inr d25v6,.inr d25v7,.inr d25v8,.inr d25v9]) (kA 3 0 [.inl 0,.inl 1,.inl 2,.inr (.int 10),.inr (.str "minus"),.inr (.int 0),.inr (.str (T [44])),.inr (.str (T [46])),.inr (.str "near"),.inr (.int 0),.inr (.str (T [32])),.inr (.str "right"),.inr (.bl false)]):=zMn dl25 rfl (.pos 0 (.pos 1 (.pos 2 (.dv rv25_0 (.dv rv25_1 (.dv rv25_2 (.dv rv25_3 (.dv rv25_4 (.dv rv25_5 (.dv rv25_6 (.dv rv25_7 (.dv rv25_8 (.dv rv25_9 (.nil)))))))))))))) (len2 (lenS fun _=>lenS fun _=>lenS fun _=>len0 (len0 (⟨_,rfl,by kernel_rfl⟩))))
 have F26:=zBs (x:="is_too_great") (qual:="NumberForm.is_too_great") (st:=zAh) l26 c26 k26
 have zCt:=zEr (P:=l.prog) (w:=w) (base:=base) (zAB:=zAB) F26 B zIW
 have zCu:zB7 K (W.fnOf "is_too_great" "NumberForm.is_too_great" (zAL zAh) (zAK zAh) (zAF zAh) .none kV26 dc26 pm26 an26 cd26 ct26) ["self", "number"] []:=.all (lenS fun _=>lenS fun _=>len0 (rfl))
 have F27:=zBs (x:="core") (qual:="NumberForm.core") (st:=zBD) l27 c27 k27
 have zIZ:=zH9 (P:=l.prog) (w:=w) (base:=base) (zAB:=zAB) F27 B zAM zPj zQb zN3 zKp  ⟨_,_,zCt,⟨Ma_NumberForm_is_too_great,Fn_NumberForm_is_too_great,k26⟩,zCu⟩
 have zIH:zB7 K (W.fnOf "core" "NumberForm.core" (zAL zBD) (zAK zBD) (zAF zBD) .none kV27 dc27 pm27 an27 cd27 ct27) ["self", "value"] []:=.all (lenS fun _=>lenS fun _=>len0 (rfl))
 have F28:=zBs (x:="is_too_wide") (qual:="Form.is_too_wide") (st:=zA5) l28 c28 k28
 have zBN:=zHU (P:=l.prog) (w:=w) (base:=base)  F28 B
 have zBT:zB7 K (W.fnOf "is_too_wide" "Form.is_too_wide" (zAL zA5) (zAK zA5) (zAF zA5) .none kV28 dc28 pm28 an28 cd28 ct28) ["self", "core"] []:=.all (lenS fun _=>lenS fun _=>len0 (rfl))
 have F29:=zA0 (st:=zCC) l29 c29 k29
 have zKG:Has l.prog w K mg base "padded_inside" 3 ["lead", "rest", "width", "fill"] (zCz K):=⟨_,_,zJJ  F29 B zLB  , W.mg_of X G a29,k29,F29.binds fun _ _ _ _ _ _=>(lenS fun _=>lenS fun _=>lenS fun _=>lenS fun _=>len0 (rfl))⟩
 have F30:=zBs (x:="lead_of") (qual:="NumberForm.lead_of") (st:=zAw) l30 c30 k30
 have zHF:=zGt (P:=l.prog) (w:=w) (base:=base) (zAB:=zAB) F30 B zIA zMt
 have zHK:zB7 K (W.fnOf "lead_of" "NumberForm.lead_of" (zAL zAw) (zAK zAw) (zAF zAw) .none kV30 dc30 pm30 an30 cd30 ct30) ["self", "core"] []:=.all (lenS fun _=>lenS fun _=>len0 (rfl))
 have F31:=zBs (x:="filled") (qual:="Form.filled") (st:=zBg) l31 c31 k31
 have zGL:=zKT (P:=l.prog) (w:=w) (base:=base) (zAB:=zAB) F31 B zAM zKG zLB  ⟨_,_,zHF,⟨Ma_NumberForm_lead_of,Fn_NumberForm_lead_of,k30⟩,zHK⟩
 have zF5:zB7 K (W.fnOf "filled" "Form.filled" (zAL zBg) (zAK zBg) (zAF zBg) .none kV31 dc31 pm31 an31 cd31 ct31) ["self", "core"] []:=.all (lenS fun _=>lenS fun _=>len0 (rfl))
 have F32:=zBs (x:="is_word") (qual:="WordForm.is_word") (st:=zA8) l32 c32 k32
 have zE2:=zHW (P:=l.prog) (w:=w) (base:=base) (zAD:=zAD) F32 B
 have zE4:zB7 K (W.fnOf "is_word" "WordForm.is_word" (zAL zA8) (zAK zA8) (zAF zA8) .none kV32 dc32 pm32 an32 cd32 ct32) ["self", "thing"] []:=.all (lenS fun _=>lenS fun _=>len0 (rfl))
 have F33:=zBs (x:="core") (qual:="WordForm.core") (st:=zBQ) l33 c33 k33
 have zJf:=zJH (P:=l.prog) (w:=w) (base:=base) (zAD:=zAD) F33 B zAb   ⟨_,_,zE2,⟨Ma_WordForm_is_word,Fn_WordForm_is_word,k32⟩,zE4⟩
 have zJs:zB7 K (W.fnOf "core" "WordForm.core" (zAL zBQ) (zAK zBQ) (zAF zBQ) .none kV33 dc33 pm33 an33 cd33 ct33) ["self", "value"] []:=.all (lenS fun _=>lenS fun _=>len0 (rfl))
 have F34:=zBs (x:="core") (qual:="ChoiceForm.core") (st:=zBB) l34 c34 k34
 have zIV:=zIG (P:=l.prog) (w:=w) (base:=base) (zAC:=zAC) F34 B
 have zIj:zB7 K (W.fnOf "core" "ChoiceForm.core" (zAL zBB) (zAK zBB) (zAF zBB) .none kV34 dc34 pm34 an34 cd34 ct34) ["self", "value"] []:=.all (lenS fun _=>lenS fun _=>len0 (rfl))
 have F35:=zBs (x:="put") (qual:="Form.put") (st:=zCi) l35 c35 k35
 have zIg:=zNi (P:=l.prog) (w:=w) (base:=base) (zAB:=zAB) (zAD:=zAD) (zAC:=zAC) (zA1:=zA1) F35 B zAM zAb zAY zFk  zJe ⟨_,_,zIZ,⟨Ma_NumberForm_core,Fn_NumberForm_core,k27⟩,zIH⟩ ⟨_,_,zJf,⟨Ma_WordForm_core,Fn_WordForm_core,k33⟩,zJs⟩ ⟨_,_,zIV,⟨Ma_ChoiceForm_core,Fn_ChoiceForm_core,k34⟩,zIj⟩ ⟨_,_,zBN,⟨Ma_NumberForm_is_too_wide,Fn_Form_is_too_wide,k28⟩,zBT⟩ ⟨_,_,zBN,⟨Ma_WordForm_is_too_wide,Fn_Form_is_too_wide,k28⟩,zBT⟩ ⟨_,_,zBN,⟨Ma_ChoiceForm_is_too_wide,Fn_Form_is_too_wide,k28⟩,zBT⟩ ⟨_,_,zGL,⟨Ma_NumberForm_filled,Fn_Form_filled,k31⟩,zF5⟩ ⟨_,_,zGL,⟨Ma_WordForm_filled,Fn_Form_filled,k31⟩,zF5⟩ ⟨_,_,zGL,⟨Ma_ChoiceForm_filled,Fn_Form_filled,k31⟩,zF5⟩
 have zIX:zB7 K (W.fnOf "put" "Form.put" (zAL zCi) (zAK zCi) (zAF zCi) .none kV35 dc35 pm35 an35 cd35 ct35) ["self", "value"] []:=.all (lenS fun _=>lenS fun _=>len0 (rfl))
 have F36:=zA0 (st:=zEL) l36 c36 k36
 have zKX:Has l.prog w K mg base "stripped" 3 ["text", "width", "fill", "side"] (zEb K):=⟨_,_,zMk  F36 B zL2 zLB  , W.mg_of X G a36,k36,F36.binds fun _ _ _ _ _ _=>(lenS fun _=>lenS fun _=>lenS fun _=>lenS fun _=>len0 (rfl))⟩
 have F37:=zBs (x:="unfilled") (qual:="Form.unfilled") (st:=zBM) l37 c37 k37
 have zEc:=zJK (P:=l.prog) (w:=w) (base:=base) (zAB:=zAB) (zAD:=zAD) (zAC:=zAC) F37 B zAM zAb zAY zKX  ⟨_,_,zBN,⟨Ma_NumberForm_is_too_wide,Fn_Form_is_too_wide,k28⟩,zBT⟩ ⟨_,_,zBN,⟨Ma_WordForm_is_too_wide,Fn_Form_is_too_wide,k28⟩,zBT⟩ ⟨_,_,zBN,⟨Ma_ChoiceForm_is_too_wide,Fn_Form_is_too_wide,k28⟩,zBT⟩
 have zEo:zB7 K (W.fnOf "unfilled" "Form.unfilled" (zAL zBM) (zAK zBM) (zAF zBM) .none kV37 dc37 pm37 an37 cd37 ct37) ["self", "text"] []:=.all (lenS fun _=>lenS fun _=>len0 (rfl))
 have F38:=zA0 (st:=zEM) l38 c38 k38
 have zOy:Has l.prog w K mg base "fraction" 2 ["top", "bottom"] (zFz K):=⟨_,_,zNQ  F38 B zGT zKh  , W.mg_of X G a38,k38,F38.binds fun _ _ _ _ _ _=>(lenS fun _=>lenS fun _=>len0 (rfl))⟩
 have F39:=zA0 (st:=zDB) l39 c39 k39
 have zMV:Has l.prog w K mg base "grid_value" 3 ["k", "base", "places"] (zEA K):=⟨_,_,zK8  F39 B zOy zIW  , W.mg_of X G a39,k39,F39.binds fun _ _ _ _ _ _=>(lenS fun _=>lenS fun _=>lenS fun _=>len0 (rfl))⟩
 have F40:=zBs (x:="number_with") (qual:="NumberForm.number_with") (st:=zAj) l40 c40 k40
 have zFT:=zFM (P:=l.prog) (w:=w) (base:=base) (zAB:=zAB) (zBG:=zBG) (zA4:=zA4) F40 B zAM zG9 zDu zPE zNa  ⟨_,_,zCt,⟨Ma_NumberForm_is_too_great,Fn_NumberForm_is_too_great,k26⟩,zCu⟩  n_NoCore n_NoBody xc xb
 have zFR:zB7 K (W.fnOf "number_with" "NumberForm.number_with" (zAL zAj) (zAK zAj) (zAF zAj) .none kV40 dc40 pm40 an40 cd40 ct40) ["self", "core", "below"] []:=.all (lenS fun _=>lenS fun _=>lenS fun _=>len0 (rfl))
 have F41:=zA0 (st:=zBr) l41 c41 k41
 have zIU:Has l.prog w K mg base "stripped_inside" 4 ["text", "lead", "width", "fill"] (zCZ K):=⟨_,_,zH5  F41 B zKX  , W.mg_of X G a41,k41,F41.binds fun _ _ _ _ _ _=>(lenS fun _=>lenS fun _=>lenS fun _=>lenS fun _=>len0 (rfl))⟩
 have F42:=zBs (x:="cores_in") (qual:="NumberForm.cores_in") (st:=zAs) l42 c42 k42
 have zGd:=zGa (P:=l.prog) (w:=w) (base:=base) (zAB:=zAB) (zAD:=zAD) (zAC:=zAC) F42 B zAM zIA zIU  ⟨_,_,zEc,⟨Ma_NumberForm_unfilled,Fn_Form_unfilled,k37⟩,zEo⟩ ⟨_,_,zBN,⟨Ma_NumberForm_is_too_wide,Fn_Form_is_too_wide,k28⟩,zBT⟩
 have zGs:zB7 K (W.fnOf "cores_in" "NumberForm.cores_in" (zAL zAs) (zAK zAs) (zAF zAs) .none kV42 dc42 pm42 an42 cd42 ct42) ["self", "text", "below"] []:=.all (lenS fun _=>lenS fun _=>lenS fun _=>len0 (rfl))
 have F43:=zBs (x:="numbers_in") (qual:="NumberForm.numbers_in") (st:=zAl) l43 c43 k43
 have zFo:=zFU (P:=l.prog) (w:=w) (base:=base) (zAB:=zAB) F43 B zAM   ⟨_,_,zFT,⟨Ma_NumberForm_number_with,Fn_NumberForm_number_with,k40⟩,zFR⟩ ⟨_,_,zGd,⟨Ma_NumberForm_cores_in,Fn_NumberForm_cores_in,k42⟩,zGs⟩
 have zGO:zB7 K (W.fnOf "numbers_in" "NumberForm.numbers_in" (zAL zAl) (zAK zAl) (zAF zAl) .none kV43 dc43 pm43 an43 cd43 ct43) ["self", "text", "below"] []:=.all (lenS fun _=>lenS fun _=>lenS fun _=>len0 (rfl))
 have F44:=zBs (x:="values_for") (qual:="NumberForm.values_for") (st:=zAm) l44 c44 k44
 have zGN:=zFY (P:=l.prog) (w:=w) (base:=base) (zAB:=zAB) F44 B zAM zMV  ⟨_,_,zFo,⟨Ma_NumberForm_numbers_in,Fn_NumberForm_numbers_in,k43⟩,zGO⟩
 have zFy:zB7 K (W.fnOf "values_for" "NumberForm.values_for" (zAL zAm) (zAK zAm) (zAF zAm) .none kV44 dc44 pm44 an44 cd44 ct44) ["self", "text"] []:=.all (lenS fun _=>lenS fun _=>len0 (rfl))
 have F45:=zBs (x:="values_for") (qual:="ChoiceForm.values_for") (st:=zAn) l45 c45 k45
 have zFx:=zFW (P:=l.prog) (w:=w) (base:=base) (zAC:=zAC) (zAB:=zAB) (zAD:=zAD) F45 B zAY   ⟨_,_,zEc,⟨Ma_ChoiceForm_unfilled,Fn_Form_unfilled,k37⟩,zEo⟩
 have zFu:zB7 K (W.fnOf "values_for" "ChoiceForm.values_for" (zAL zAn) (zAK zAn) (zAF zAn) .none kV45 dc45 pm45 an45 cd45 ct45) ["self", "text"] []:=.all (lenS fun _=>lenS fun _=>len0 (rfl))
 have F46:=zBs (x:="values_for") (qual:="WordForm.values_for") (st:=zAr) l46 c46 k46
 have zGy:=zGW (P:=l.prog) (w:=w) (base:=base) (zAD:=zAD) (zAB:=zAB) (zAC:=zAC) F46 B zAb   ⟨_,_,zEc,⟨Ma_WordForm_unfilled,Fn_Form_unfilled,k37⟩,zEo⟩ ⟨_,_,zE2,⟨Ma_WordForm_is_word,Fn_WordForm_is_word,k32⟩,zE4⟩
 have zGm:zB7 K (W.fnOf "values_for" "WordForm.values_for" (zAL zAr) (zAK zAr) (zAF zAr) .none kV46 dc46 pm46 an46 cd46 ct46) ["self", "text"] []:=.all (lenS fun _=>lenS fun _=>len0 (rfl))
 have F47:=zBs (x:="widened") (qual:="NumberForm.widened") (st:=zAx) l47 c47 k47
 have zHJ:=zGk (P:=l.prog) (w:=w) (base:=base) (zAB:=zAB) F47 B zBW   ⟨_,_,zCf,⟨I1_NumberForm,I2_NumberForm,Fn_NumberForm___init__,I4_NumberForm⟩,zDz⟩  zAM zED
 have zHH:zB7 K (W.fnOf "widened" "NumberForm.widened" (zAL zAx) (zAK zAx) (zAF zAx) .none kV47 dc47 pm47 an47 cd47 ct47) ["self", "width"] []:=.all (lenS fun _=>lenS fun _=>len0 (rfl))
 have F48:=zBs (x:="widened") (qual:="WordForm.widened") (st:=zA6) l48 c48 k48
 have zIE:=zHj (P:=l.prog) (w:=w) (base:=base) (zAD:=zAD) F48 B zBz   ⟨_,_,zC4,⟨I1_WordForm,I2_WordForm,Fn_WordForm___init__,I4_WordForm⟩,zEX⟩  zAb zFw
 have zH4:zB7 K (W.fnOf "widened" "WordForm.widened" (zAL zA6) (zAK zA6) (zAF zA6) .none kV48 dc48 pm48 an48 cd48 ct48) ["self", "width"] []:=.all (lenS fun _=>lenS fun _=>len0 (rfl))
 have F49:=zBs (x:="widened") (qual:="ChoiceForm.widened") (st:=zAv) l49 c49 k49
 have zHN:=zGj (P:=l.prog) (w:=w) (base:=base) (zAC:=zAC) F49 B zBU   ⟨_,_,zCh,⟨I1_ChoiceForm,I2_ChoiceForm,Fn_ChoiceForm___init__,I4_ChoiceForm⟩,zDx⟩  zAY zEB
 have zHM:zB7 K (W.fnOf "widened" "ChoiceForm.widened" (zAL zAv) (zAK zAv) (zAF zAv) .none kV49 dc49 pm49 an49 cd49 ct49) ["self", "width"] []:=.all (lenS fun _=>lenS fun _=>len0 (rfl))
 have F50:=zA0 (st:=zDk) l50 c50 k50
 have zHp:Has l.prog w K mg base "_law_signs" 1 [] (zDD K):=⟨_,_,zMQ  F50 B   , W.mg_of X G a50,k50,F50.binds fun _ _ _ _ _ _=>(len0 (rfl))⟩
 have F51:=zA0 (st:=zEI) l51 c51 k51
 have zIf:Has l.prog w K mg base "_law_sign" 2 ["_law_cell", "_law_salt"] (zDb K):=⟨_,_,zMr  F51 B zCS zHp  , W.mg_of X G a51,k51,F51.binds fun _ _ _ _ _ _=>(lenS fun _=>lenS fun _=>len0 (rfl))⟩
 have F52:=zA0 (st:=zBo) l52 c52 k52
 have zIQ:Has l.prog w K mg base "_law_number_spec" 3 ["_law_cell", "_law_other", "_law_small"] (zCW K):=⟨_,_,zIB  F52 B zCS zIf  , W.mg_of X G a52,k52,F52.binds fun _ _ _ _ _ _=>(lenS fun _=>lenS fun _=>lenS fun _=>len0 (rfl))⟩
 have F53:=zA0 (st:=zBm) l53 c53 k53
 have zIL:Has l.prog w K mg base "_law_number_form" 4 ["_law_spec_here"] (zDJ K zAB):=⟨_,_,zHu (zAB:=zAB) F53 B zBW   ⟨_,_,zCf,⟨I1_NumberForm,I2_NumberForm,Fn_NumberForm___init__,I4_NumberForm⟩,zDz⟩  zAM zED,W.mg_of X G a53,k53,F53.binds fun _ _ _ _ _ _=>(lenS fun _=>len0 (rfl))⟩
 have F54:=zA0 (st:=zCI) l54 c54 k54
 have zJX:Has l.prog w K mg base "_law_word_spec" 3 ["_law_cell", "_law_other", "_law_small"] (zC1 K):=⟨_,_,zJF  F54 B zCS zHp zIf  , W.mg_of X G a54,k54,F54.binds fun _ _ _ _ _ _=>(lenS fun _=>lenS fun _=>lenS fun _=>len0 (rfl))⟩
 have F55:=zA0 (st:=zDl) l55 c55 k55
 have zNC:Has l.prog w K mg base "_law_names" 2 ["_law_cell", "_law_many"] (zEv K):=⟨_,_,zMG  F55 B zCS zHp  , W.mg_of X G a55,k55,F55.binds fun _ _ _ _ _ _=>(lenS fun _=>lenS fun _=>len0 (rfl))⟩
 have F56:=zA0 (st:=zBp) l56 c56 k56
 have zIa:Has l.prog w K mg base "_law_choice_spec" 3 ["_law_cell", "_law_other", "_law_small"] (zCX K):=⟨_,_,zH1  F56 B zNC zCS zIf  , W.mg_of X G a56,k56,F56.binds fun _ _ _ _ _ _=>(lenS fun _=>lenS fun _=>lenS fun _=>len0 (rfl))⟩
 have F57:=zA0 (st:=zDg) l57 c57 k57
 have zHs:Has l.prog w K mg base "_law_power" 1 ["_law_base", "_law_times"] (zC7 K):=⟨_,_,zLs  F57 B   , W.mg_of X G a57,k57,F57.binds fun _ _ _ _ _ _=>(lenS fun _=>lenS fun _=>len0 (rfl))⟩
 have F58:=zA0 (st:=zCj) l58 c58 k58
 have zLQ:Has l.prog w K mg base "_law_divisor" 1 ["_law_one", "_law_other"] (zDt K):=⟨_,_,zKQ  F58 B   , W.mg_of X G a58,k58,F58.binds fun _ _ _ _ _ _=>(lenS fun _=>lenS fun _=>len0 (rfl))⟩
 have F59:=zA0 (st:=zC5) l59 c59 k59
 have zL5:Has l.prog w K mg base "_law_lowest" 2 ["_law_top", "_law_bottom"] (zEE K):=⟨_,_,zLI  F59 B zLQ  , W.mg_of X G a59,k59,F59.binds fun _ _ _ _ _ _=>(lenS fun _=>lenS fun _=>len0 (rfl))⟩
 have F60:=zA0 (st:=zCm) l60 c60 k60
 have zLJ:Has l.prog w K mg base "_law_figures" 1 ["_law_number", "_law_base"] (zDv K):=⟨_,_,zKN  F60 B   , W.mg_of X G a60,k60,F60.binds fun _ _ _ _ _ _=>(lenS fun _=>lenS fun _=>len0 (rfl))⟩
 have F61:=zA0 (st:=zEP) l61 c61 k61
 have zO9:Has l.prog w K mg base "_law_body" 2 ["_law_steps_here", "_law_spec_here"] (zGD K):=⟨_,_,zM8  F61 B zHs zLJ  , W.mg_of X G a61,k61,F61.binds fun _ _ _ _ _ _=>(lenS fun _=>lenS fun _=>len0 (rfl))⟩
 have F62:=zA0 (st:=zDi) l62 c62 k62
 have zNA:Has l.prog w K mg base "_law_parts" 3 ["_law_steps_here", "_law_spec_here"] (zE3 K):=⟨_,_,zL1  F62 B zO9  , W.mg_of X G a62,k62,F62.binds fun _ _ _ _ _ _=>(lenS fun _=>lenS fun _=>len0 (rfl))⟩
 have F63:=zA0 (st:=zDY) l63 c63 k63
 have zNj:Has l.prog w K mg base "_law_great" 1 ["_law_cell", "_law_at", "_law_limit"] (zEy K):=⟨_,_,zMO  F63 B   , W.mg_of X G a63,k63,F63.binds fun _ _ _ _ _ _=>(lenS fun _=>lenS fun _=>lenS fun _=>len0 (rfl))⟩
 have F64:=zA0 (st:=zDA) l64 c64 k64
 have zLl:Has l.prog w K mg base "_law_filled" 1 ["_law_lead", "_law_rest", "_law_spec_here"] (zEC K):=⟨_,_,zLL  F64 B   , W.mg_of X G a64,k64,F64.binds fun _ _ _ _ _ _=>(lenS fun _=>lenS fun _=>lenS fun _=>len0 (rfl))⟩
 have F65:=zA0 (st:=zDc) l65 c65 k65
 have zMw:Has l.prog w K mg base "_law_steps" 2 ["_law_cell", "_law_limit"] (zFB K):=⟨_,_,zMB  F65 B zCS zNj  , W.mg_of X G a65,k65,F65.binds fun _ _ _ _ _ _=>(lenS fun _=>lenS fun _=>len0 (rfl))⟩
 have F66:=zA0 (st:=zER) l66 c66 k66
 have zOm:Has l.prog w K mg base "_law_word" 2 ["_law_cell", "_law_signs_here", "_law_size"] (zGK K):=⟨_,_,zMy  F66 B zCS  , W.mg_of X G a66,k66,F66.binds fun _ _ _ _ _ _=>(lenS fun _=>lenS fun _=>lenS fun _=>len0 (rfl))⟩
 have F67:=zA0 (st:=zES) l67 c67 k67
 have zO0:Has l.prog w K mg base "_law_spec" 4 ["_law_script", "_law_small"] (zGC K):=⟨_,_,zNl  F67 B zCS zIa zHy zIQ zJX  , W.mg_of X G a67,k67,F67.binds fun _ _ _ _ _ _=>(lenS fun _=>lenS fun _=>len0 (rfl))⟩
 have F68:=zA0 (st:=zET) l68 c68 k68
 have zOH:Has l.prog w K mg base "_law_form" 5 ["_law_spec_here"] (zGE K zAB zAD zAC):=⟨_,_,zMz (zAC:=zAC) (zAD:=zAD) (zAB:=zAB) F68 B zBU zBz zIL  ⟨_,_,zCh,⟨I1_ChoiceForm,I2_ChoiceForm,Fn_ChoiceForm___init__,I4_ChoiceForm⟩,zDx⟩ ⟨_,_,zC4,⟨I1_WordForm,I2_WordForm,Fn_WordForm___init__,I4_WordForm⟩,zEX⟩  zAb zFw zAY zEB,W.mg_of X G a68,k68,F68.binds fun _ _ _ _ _ _=>(lenS fun _=>len0 (rfl))⟩
 have F69:=zA0 (st:=zDZ) l69 c69 k69
 have zNF:Has l.prog w K mg base "_law_value" 3 ["_law_cell", "_law_spec_here"] (zEs K):=⟨_,_,zMY  F69 B zHs zL5 zOm zCS zMw  , W.mg_of X G a69,k69,F69.binds fun _ _ _ _ _ _=>(lenS fun _=>lenS fun _=>len0 (rfl))⟩
 have F70:=zA0 (st:=zCR) l70 c70 k70
 have zKS:Has l.prog w K mg base "_law_parts_of" 4 ["_law_value_here", "_law_spec_here"] (zDR K):=⟨_,_,zKD  F70 B zNA zHs  , W.mg_of X G a70,k70,F70.binds fun _ _ _ _ _ _=>(lenS fun _=>lenS fun _=>len0 (rfl))⟩
 have F71:=zA0 (st:=zEV) l71 c71 k71
 have zOc:Has l.prog w K mg base "_law_text" 5 ["_law_value_here", "_law_spec_here"] (zF7 K):=⟨_,_,zNL  F71 B zKS zLl  , W.mg_of X G a71,k71,F71.binds fun _ _ _ _ _ _=>(lenS fun _=>lenS fun _=>len0 (rfl))⟩
 have F72:=zA0 (st:=zDd) l72 c72 k72
 have zNM:Has l.prog w K mg base "_law_whole" 1 ["_law_thing"] (zE9 K):=⟨_,_,zLU  F72 B   , W.mg_of X G a72,k72,F72.binds fun _ _ _ _ _ _=>(lenS fun _=>len0 (rfl))⟩
 have F73:=zA0 (st:=zDG) l73 c73 k73
 have zI2:Has l.prog w K mg base "_law_fields" 2 ["_law_form_here", "_law_spec_here"] (zDP K zAB zAD zAC):=⟨_,_,zKt (zAB:=zAB) (zAD:=zAD) (zAC:=zAC) F73 B zNM  zBW zBz zBU zEh ⟨zAM,nha,ihn,iht,nhm,nk1,nk2,nk3,nk4⟩ ⟨zAb,wha,ihn,iht,whm,wk1,wk2,wk3,wk4⟩ ⟨zAY,cha,ihn,iht,chm,ck1,ck2,ck3,ck4⟩,W.mg_of X G a73,k73,F73.binds fun _ _ _ _ _ _=>(lenS fun _=>lenS fun _=>len0 (rfl))⟩
 have F74:=zA0 (st:=zEH) l74 c74 k74
 have zOk:Has l.prog w K mg base "_law_told" 7 ["_law_form_here", "_law_value_here"] (zGM K zAB zAD zAC):=⟨_,_,zMi (zAB:=zAB) (zAD:=zAD) (zAC:=zAC) (zA1:=zA1) F74 B zAM zAb zAY zFk   ⟨_,_,zIg,⟨Ma_NumberForm_put,Fn_Form_put,k35⟩,zIX⟩ ⟨_,_,zIg,⟨Ma_WordForm_put,Fn_Form_put,k35⟩,zIX⟩ ⟨_,_,zIg,⟨Ma_ChoiceForm_put,Fn_Form_put,k35⟩,zIX⟩  xw,W.mg_of X G a74,k74,F74.binds fun _ _ _ _ _ _=>(lenS fun _=>lenS fun _=>len0 (rfl))⟩
 have F75:=zA0 (st:=zDf) l75 c75 k75
 have zNc:Has l.prog w K mg base "_law_plain" 4 ["_law_spec_here"] (zE0 K):=⟨_,_,zLk (zAC:=zAC) (zAB:=zAB) (zAD:=zAD) F75 B zBU zBW zBz zI2  ⟨_,_,_,zCh,⟨I1_ChoiceForm,I2_ChoiceForm,Fn_ChoiceForm___init__,I4_ChoiceForm⟩,zFI⟩ ⟨_,_,_,zCf,⟨I1_NumberForm,I2_NumberForm,Fn_NumberForm___init__,I4_NumberForm⟩,zFH⟩ ⟨_,_,_,zC4,⟨I1_WordForm,I2_WordForm,Fn_WordForm___init__,I4_WordForm⟩,zF2⟩  zAM zED zAb zFw zAY zEB,W.mg_of X G a75,k75,F75.binds fun _ _ _ _ _ _=>(lenS fun _=>len0 (rfl))⟩
 have F76:=zA0 (st:=zLF) l76 c76 k76
 exact zVi (zAB:=zAB) (zAD:=zAD) (zAC:=zAC) F76 B zAM zAb zAY zO0 zOH zCS zHy zNF zOc zI2 zNc zOk  ⟨_,_,zHJ,⟨Ma_NumberForm_widened,Fn_NumberForm_widened,k47⟩,zHH⟩ ⟨_,_,zIE,⟨Ma_WordForm_widened,Fn_WordForm_widened,k48⟩,zH4⟩ ⟨_,_,zHN,⟨Ma_ChoiceForm_widened,Fn_ChoiceForm_widened,k49⟩,zHM⟩ ⟨_,_,zGN,⟨Ma_NumberForm_values_for,Fn_NumberForm_values_for,k44⟩,zFy⟩ ⟨_,_,zGy,⟨Ma_WordForm_values_for,Fn_WordForm_values_for,k46⟩,zGm⟩ ⟨_,_,zFx,⟨Ma_ChoiceForm_values_for,Fn_ChoiceForm_values_for,k45⟩,zFu⟩  zEh ⟨zAM,nha,ihn,iht,nhm,nk1,nk2,nk3,nk4⟩ ⟨zAb,wha,ihn,iht,whm,wk1,wk2,wk3,wk4⟩ ⟨zAY,cha,ihn,iht,chm,ck1,ck2,ck3,ck4⟩
theorem walk {l:W.OpenLaw} {q:Program} {loose:List Str} {XP:(Str→Option Value)→Heap→Prop} {YP:World→Heap→Prop} {d:DefRec} {K:Params→W.Frag} (hn:l.most=some 63) (hdf:d.params.defaults=[])
  (hY : ∀ (w:World) (h:Heap),YP w h→(K w.params).In h)
  (F : ∀ (w:World) (mg:Str→Option Value) (fa:Addr) (h:Heap),(K w.params).In h→h.Ns mainGlobals mg→mg d.name=some (.ref fa) →
   ∃ fd:FuncData,(∀ (s:Shared) (u:Value),BindsTo s fd ⟨[u],[]⟩ [("_law_script", u)]) ∧ ∀ base:Heap,(K w.params).In base→base.Ns mainGlobals mg→FnOk l.prog w (K w.params) mg base CX0 8 fa fd ["_law_script"] (zNv (K w.params))) :
  W.WalkO q loose XP YP l.row.toRowW d [] (fun f vs=>PySem.call f vs):=
 L2.walk_of (n:=63) (k:=8) (x:="_law_script") (CX:=fun _=>CX0) (sp:=fun w=>zNv (K w.params)) hn (by decide) hdf ⟨rfl,by decide,by decide⟩ hY F (fun _ _ a ns hl _ hS=>⟨a,ns,rfl,hS,hl,fun _=>rfl⟩) fun _ _ _ _ _ z=>z
end Pw
namespace PySem.W.Fast
def tw1002553048756923750:=0
def tw1003217033798629605:=0
def tw10051013658624969403:=0
def tw10060806384698201784:=0
def tw10083431284033273769:=0
def tw10107180137454972930:=0
def tw10114901666858995577:=0
def tw10148519503534658822:=0
def tw10160916511482871859:=0
def tw10160949676240905224:=0
def tw10193371993610228258:=0
def tw10221040161470011163:=0
def tw10238127464066750686:=0
def tw1025716860993292186:=0
def tw1035254789162065374:=0
def tw10356148691257167286:=0
def tw10361766136157564658:=0
def tw103772558336616120:=0
def tw10381760692021395686:=0
def tw10392937701476026337:=0
def tw10399120225461777455:=0
def tw10405482133951191772:=0
def tw10478303721587306101:=0
def tw10498023750794009274:=0
def tw10526119890938254726:=0
def tw10541361660175071839:=0
def tw10606212103229166681:=0
def tw10635474577091425113:=0
def tw1064535049559277907:=0
def tw10669963367690132683:=0
def tw10685193137422629961:=0
def tw10686259038642395792:=0
def tw10687101941425832201:=0
def tw10698472279056989254:=0
def tw10711098187654261052:=0
def tw10741751485425872593:=0
def tw10745111750146625412:=0
def tw10781958696185069477:=0
def tw10792564786233154204:=0
def tw1080981705993931461:=0
def tw10839631967991008292:=0
def tw10851421864940587052:=0
def tw10861749458039528559:=0
def tw10890075584874513350:=0
def tw10922827396027793106:=0
def tw10951654175329687866:=0
def tw10955061799856386926:=0
def tw10966815128066278512:=0
def tw11040485112741200239:=0
def tw11043901532035127195:=0
def tw11064134706095568424:=0
def tw1109572161113400638:=0
def tw11110775327426599074:=0
def tw11124178970375761972:=0
def tw11132144500182449681:=0
def tw11186154491415921419:=0
def tw11205309920159417789:=0
def tw11257568326225216608:=0
def tw11279204484296366237:=0
def tw112817309738010465:=0
def tw11302270732632750064:=0
def tw11342304105264591591:=0
def tw11355890652388408910:=0
def tw11451252336094883336:=0
def tw11475375786508738689:=0
def tw11505458292389206422:=0
def tw11512843968465279468:=0
def tw11537410043676773342:=0
def tw11553269244574075233:=0
def tw11570877064374246203:=0
def tw11579235406018632463:=0
def tw11634093139983280226:=0
def tw11639124620108637646:=0
def tw11652157936753755809:=0
def tw11659087968045658653:=0
def tw11668771712380501923:=0
def tw11792633071663206500:=0
def tw11859794493135660278:=0
def tw11902252095065544833:=0
def tw11906690631866377063:=0
def tw11969317700198195617:=0
def tw11977521587347605340:=0
def tw12068266741864524310:=0
def tw12093607570717297033:=0
def tw12119323348664077573:=0
def tw12120348572120968594:=0
def tw12130295859752161635:=0
def tw12135250477204137544:=0
def tw12166832424508297638:=0
def tw12174961730184664345:=0
def tw1217646169807939349:=0
def tw12180166867692878544:=0
def tw12186888115226616500:=0
def tw12262847294604096133:=0
def tw12324341608226275181:=0
def tw12339896992452054128:=0
def tw12340694524412008476:=0
def tw12349370178465550589:=0
def tw12354766869514742118:=0
def tw12415673434633678171:=0
def tw12421203341648275763:=0
def tw12435501274711615580:=0
def tw12459294292513507039:=0
def tw12478015602951444754:=0
def tw12488541533089567629:=0
def tw12498746492530733402:=0
def tw12514840160572608824:=0
def tw1251892769269453257:=0
def tw12544071260135468114:=0
def tw12616289944101958882:=0
def tw12653862476796288025:=0
def tw12662675996705569761:=0
def tw12670281202392372740:=0
def tw12746705395660807157:=0
def tw12756783883398010093:=0
def tw12771673384798308043:=0
def tw12866327790467243430:=0
def tw12895015250631219461:=0
def tw12904219177369377020:=0
def tw12986562785573258478:=0
def tw12987938342594415179:=0
def tw12996604440598410405:=0
def tw12997310054536047911:=0
def tw13010133406053000334:=0
def tw13028282311854790234:=0
def tw13073650443389422876:=0
def tw13083272223218689358:=0
def tw13108105328201992009:=0
def tw13130098021902631867:=0
def tw13177361130730615552:=0
def tw13189515485278497557:=0
def tw13214745461250898600:=0
def tw13230068882969961329:=0
def tw13243849514535269114:=0
def tw1328132784936796413:=0
def tw13295606655836540140:=0
def tw13302406612932730190:=0
def tw13324047062224860069:=0
def tw13326264845546659000:=0
def tw13362311406775338779:=0
def tw13393496129920248931:=0
def tw13411026000001080857:=0
def tw13423822961372563798:=0
def tw13449532745594915129:=0
def tw13451310603153234160:=0
def tw13459984302183694567:=0
def tw13475427780976932532:=0
def tw1348948343450376670:=0
def tw13509638756946629369:=0
def tw13517222324283778771:=0
def tw13526163624297031185:=0
def tw13539021517356948714:=0
def tw13552514334816440116:=0
def tw1356964653227841214:=0
def tw13647359719701336885:=0
def tw13736587718587096345:=0
def tw13746505805962887983:=0
def tw13752779460335929032:=0
def tw13784253312809227796:=0
def tw13785818679361458386:=0
def tw13828001979793916351:=0
def tw13856082135340604269:=0
def tw1386785585970440719:=0
def tw13924458347991515196:=0
def tw13942378789993405230:=0
def tw13984125280894804735:=0
def tw13993896605711938417:=0
def tw14007289603966942824:=0
def tw14013516660839480120:=0
def tw14018269926417323954:=0
def tw14023871765534193047:=0
def tw14056713655705819899:=0
def tw14087308232541539119:=0
def tw14088077361739275183:=0
def tw14106516243146660408:=0
def tw14137230761218469963:=0
def tw14151655264572582635:=0
def tw14174929002946305497:=0
def tw14193233741208551083:=0
def tw14205179770374216379:=0
def tw14206763631983173384:=0
def tw14243592669898988587:=0
def tw14263769888613028682:=0
def tw14265358559727068175:=0
def tw14275171483627647569:=0
def tw14275647919289688784:=0
def tw14292436697731279679:=0
def tw14320349875720944670:=0
def tw14334786225633824055:=0
def tw14353210321003057496:=0
def tw14389411872277476478:=0
def tw14390448525844437269:=0
def tw14395857977639060765:=0
def tw14407496482173065305:=0
def tw14478047333513065783:=0
def tw14539556202261696137:=0
def tw14626918558750315230:=0
def tw1463477745512463752:=0
def tw14638881988103852033:=0
def tw14646992713728396753:=0
def tw14661891244101933852:=0
def tw14668046253472248716:=0
def tw14688200911343538958:=0
def tw14697448525608726955:=0
def tw14717957887824853436:=0
def tw14733232811996054991:=0
def tw147448447715332727:=0
def tw14757721760976112170:=0
def tw14758764338315169505:=0
def tw14762713014412686053:=0
def tw14799483696445397389:=0
def tw1487362441085175240:=0
def tw14919371648671477833:=0
def tw14930931136829869284:=0
def tw14969001058800651792:=0
def tw14973013699169336635:=0
def tw15060223870000025860:=0
def tw15078462268874161542:=0
def tw15081126631280766458:=0
def tw15103793255382847285:=0
def tw15118889524716995613:=0
def tw15125156510099714157:=0
def tw15171189865920163534:=0
def tw15175242504765199718:=0
def tw15189059865613573031:=0
def tw15204548979430899363:=0
def tw15236551895271065403:=0
def tw15246443462706223395:=0
def tw1529419539730343384:=0
def tw15343979633787235621:=0
def tw15365342157089655389:=0
def tw1538210637985239459:=0
def tw15399029641963957093:=0
def tw15419842381082954828:=0
def tw15432563450805176627:=0
def tw15437332767630985981:=0
def tw15466103313274586292:=0
def tw1550655954849226552:=0
def tw15511610015772403344:=0
def tw15537964962154237905:=0
def tw15548867405550393588:=0
def tw15558982039856272576:=0
def tw15595627299664403517:=0
def tw15598574493971854761:=0
def tw15602060658844142009:=0
def tw1562485490390655656:=0
def tw15634722982670803880:=0
def tw15657283123300774667:=0
def tw15669181792668408953:=0
def tw15688461202963425069:=0
def tw15730721603326429906:=0
def tw15777667884563510167:=0
def tw15788729000072571770:=0
def tw15795414016176846612:=0
def tw1582532443154311105:=0
def tw15844718302900951216:=0
def tw15851428192353509581:=0
def tw1589328445079070257:=0
def tw15896169841649139144:=0
def tw15915323885962915177:=0
def tw15934825872705425727:=0
def tw15938948825315863632:=0
def tw15946559386176585894:=0
def tw15947006630881334023:=0
def tw1595973982522907718:=0
def tw15994917730905328818:=0
def tw15995268594888220457:=0
def tw1599613445986601863:=0
def tw16017924322838007037:=0
def tw16025716541966154285:=0
def tw16030675755495845047:=0
def tw16091591562710941990:=0
def tw16106810206230395386:=0
def tw16121427876602133584:=0
def tw16122757752705223803:=0
def tw1615175768655681755:=0
def tw16171590836552751674:=0
def tw16197185801606822703:=0
def tw16206109399838860715:=0
def tw16281135628813715928:=0
def tw16288005233328837570:=0
def tw16288029339648536701:=0
def tw16297152463430319319:=0
def tw16305022308095016350:=0
def tw16367242763378005305:=0
def tw16373296236944121095:=0
def tw16391554254106064722:=0
def tw1643318464343332173:=0
def tw16464081231082458507:=0
def tw16467737954423451538:=0
def tw16511394396638368058:=0
def tw16523819996306396223:=0
def tw16538434451690078809:=0
def tw16571418516598206520:=0
def tw16585628280056951123:=0
def tw16629874063394770716:=0
def tw16752784690079442458:=0
def tw16761114884450747426:=0
def tw16764630521533159419:=0
def tw16781809944608324782:=0
def tw16786768522944606368:=0
def tw16844014836416617510:=0
def tw16869814951103318707:=0
def tw16891911997535915875:=0
def tw16939834818521127268:=0
def tw16997839128763792667:=0
def tw16999064334082687356:=0
def tw17017542057876109112:=0
def tw17019790923406277960:=0
def tw17049977770338607551:=0
def tw170766184541971559:=0
def tw17079323742921670174:=0
def tw17108687221871256230:=0
def tw17120119414392324784:=0
def tw17181951985187663352:=0
def tw17183151128295559751:=0
def tw1719017034254240388:=0
def tw1719834013821087402:=0
def tw17210333570904497991:=0
def tw1721863732020055089:=0
def tw17221621505303230029:=0
def tw17248546672096530382:=0
def tw17264696807789721292:=0
def tw17265394667038732008:=0
def tw172663451375232234:=0
def tw17267945779126270954:=0
def tw17268329178971362688:=0
def tw17269195855638924512:=0
def tw17322907260503434311:=0
def tw17378332791280756604:=0
def tw17390449862147316901:=0
def tw17429055374913056128:=0
def tw17441803135207664848:=0
def tw17523057200803649426:=0
def tw17524503958795230504:=0
def tw17559841879978689548:=0
def tw17560355240004396274:=0
def tw17565291623295437875:=0
def tw1759093799103622388:=0
def tw1775807459078133464:=0
def tw17769641743982497367:=0
def tw17798899121239945707:=0
def tw17832426337697668530:=0
def tw17898697472503775706:=0
def tw17920409887080229275:=0
def tw17928352558746790081:=0
def tw17959211331121556484:=0
def tw17961143420269355138:=0
def tw17978166313284624828:=0
def tw17990604944898466155:=0
def tw17991369921019418847:=0
def tw1805829592739017896:=0
def tw18070845364122946209:=0
def tw18103171337259462898:=0
def tw1813683655081688524:=0
def tw18144563413890660002:=0
def tw18198502970796357636:=0
def tw18202826366424701327:=0
def tw18207577727472038848:=0
def tw18215480700367278243:=0
def tw18230068170571729927:=0
def tw18242043852395094379:=0
def tw18244524190410606292:=0
def tw18253346623779036859:=0
def tw18276437470992552486:=0
def tw18305577193690063708:=0
def tw18311523169826739617:=0
def tw18348258116913498832:=0
def tw18406319714184931787:=0
def tw18421715510605129599:=0
def tw18441755491478976528:=0
def tw1846365167399684450:=0
def tw1850051956678185060:=0
def tw1869178522459676766:=0
def tw192037636853805742:=0
def tw1936213858348375800:=0
def tw1967282720048937297:=0
def tw1977025077633312793:=0
def tw1982132820497668846:=0
def tw2013513925542437625:=0
def tw2022081940848881335:=0
def tw2027998937524070022:=0
def tw2028229496574906086:=0
def tw2064183093295668987:=0
def tw2076915224420485997:=0
def tw2089965505297509352:=0
def tw2126005188672358118:=0
def tw2168033227861916616:=0
def tw2219851090025812896:=0
def tw2225378846475675288:=0
def tw2254797017782004526:=0
def tw2269649537322457984:=0
def tw2285260412237165929:=0
def tw2296197606097280204:=0
def tw2348755422616869293:=0
def tw2419669412819050032:=0
def tw2427100967970815077:=0
def tw2432183147359923350:=0
def tw2456358102688120338:=0
def tw2461870106083891368:=0
def tw2469003674472298620:=0
def tw2473515953427634817:=0
def tw2498439070646371999:=0
def tw253026555798360836:=0
def tw2539655444862385513:=0
def tw2570012824362622029:=0
def tw258304581680675730:=0
def tw2600715117285257149:=0
def tw2630829759840586918:=0
def tw2640233980535695711:=0
def tw2664223317216795531:=0
def tw2667115093095055783:=0
def tw2690851162803866587:=0
def tw2693556359678193919:=0
def tw2768196189637500301:=0
def tw2781686831900386815:=0
def tw2783608216516653376:=0
def tw2826010722472801050:=0
def tw2898446658390458674:=0
def tw290596305369974621:=0
def tw294066588317209519:=0
def tw2954557649480712215:=0
def tw2975632571118923948:=0
def tw3009850546754822232:=0
def tw3020391160192382298:=0
def tw3023431779877510112:=0
def tw3025807986870925447:=0
def tw3041021266975571763:=0
def tw3055464700449250716:=0
def tw307626284207846133:=0
def tw3093074900789638473:=0
def tw3103077546457408025:=0
def tw3162243996720837761:=0
def tw3167928914066753590:=0
def tw3175118309812317005:=0
def tw3198816236599501068:=0
def tw3247955020441844910:=0
def tw324924906501129848:=0
def tw3304010419511313339:=0
def tw3320834307434455960:=0
def tw332228531956971681:=0
def tw3330071621959303036:=0
def tw3331398946931048312:=0
def tw3333221784487644635:=0
def tw3346706323805434514:=0
def tw3351688402434676065:=0
def tw3360359484920778927:=0
def tw3361836355638493478:=0
def tw3392488274163953505:=0
def tw3436547558372286927:=0
def tw3442309019500124595:=0
def tw3457618430384387639:=0
def tw3482820996083379127:=0
def tw3497100886643812534:=0
def tw353320206186047974:=0
def tw3542743582951780021:=0
def tw3543846039912890213:=0
def tw3667699301654298239:=0
def tw367514167851769337:=0
def tw3684214044186421003:=0
def tw3688412071713140108:=0
def tw3693336601012559749:=0
def tw3732742048606007445:=0
def tw3736521601597418813:=0
def tw3752279328147612930:=0
def tw379969481329369976:=0
def tw3824713186415185953:=0
def tw3837396963829294888:=0
def tw3839278577237399433:=0
def tw3905404395030988233:=0
def tw3912014046043717637:=0
def tw3927669766321983222:=0
def tw3945461533694413759:=0
def tw3947830529389375526:=0
def tw3961336071976382615:=0
def tw3964629699815924816:=0
def tw3979761814628703910:=0
def tw3980295324371888448:=0
def tw4010418627022834982:=0
def tw406515588179253309:=0
def tw4211661515937981518:=0
def tw4249647215638369643:=0
def tw4291089851680367528:=0
def tw4293371790859407603:=0
def tw4306057985360998759:=0
def tw4316032696110509350:=0
def tw4323084019251827424:=0
def tw4323729011704635097:=0
def tw4392566362550394115:=0
def tw4431629126369339584:=0
def tw4435798304803641840:=0
def tw4436166650534205626:=0
def tw4441575198305071043:=0
def tw4468782658813363334:=0
def tw448769898019768993:=0
def tw4505466665854577753:=0
def tw4517236136074619003:=0
def tw4553752682833650538:=0
def tw457012597685693765:=0
def tw4572473068480190895:=0
def tw45747169827405016:=0
def tw4592873077497660664:=0
def tw4598381116234659453:=0
def tw4604358979642349077:=0
def tw4638427135461710598:=0
def tw4644564026845628185:=0
def tw4683755855837139668:=0
def tw4758706057343525766:=0
def tw4796853479703164925:=0
def tw4876810672717218815:=0
def tw4897105332107981294:=0
def tw49410488219562267:=0
def tw495632839092600903:=0
def tw4960908307816615108:=0
def tw4981497183835945854:=0
def tw5013452218876663386:=0
def tw5128282664447565963:=0
def tw51367381399563946:=0
def tw5140265754384431286:=0
def tw5171975591841901454:=0
def tw5181433377663076455:=0
def tw5209892831775346394:=0
def tw5232371222481920908:=0
def tw524205930243961311:=0
def tw5279900489291490766:=0
def tw5325284917150029401:=0
def tw5327815173541308254:=0
def tw5372209295066486579:=0
def tw5379051130751400619:=0
def tw538736170290383531:=0
def tw5443547778244871211:=0
def tw5485506456248264833:=0
def tw5498996122802640536:=0
def tw5504099843002091844:=0
def tw5516657846598555085:=0
def tw5520628022806769826:=0
def tw5540556184486660370:=0
def tw5566811939915253971:=0
def tw5589079707111736439:=0
def tw558985379537252913:=0
def tw5618512524724046199:=0
def tw5642361410338594038:=0
def tw564692835358693085:=0
def tw5673580475884348487:=0
def tw5698667955054577862:=0
def tw5839665616455700911:=0
def tw5848198921085092880:=0
def tw5851433389350513098:=0
def tw5857526952682150331:=0
def tw5909713070856012141:=0
def tw5930870390433034885:=0
def tw599533329626389766:=0
def tw600221745259064704:=0
def tw6078897356355278859:=0
def tw612117152988403582:=0
def tw6154751027617184073:=0
def tw6183775149567022532:=0
def tw6195762844198504170:=0
def tw6203328589622539301:=0
def tw6264666346044580263:=0
def tw6300352411175684454:=0
def tw634083123987369362:=0
def tw634382886581894853:=0
def tw6348018033807728568:=0
def tw638863907273550502:=0
def tw6396549431521990579:=0
def tw6412072879868296872:=0
def tw6450431223546430436:=0
def tw651730717858187365:=0
def tw6538521453077490622:=0
def tw6542398031600181620:=0
def tw6561043900101907342:=0
def tw656528787537294262:=0
def tw6602061318364577363:=0
def tw660673658278577056:=0
def tw6613175069047948154:=0
def tw6629376426041973588:=0
def tw6634883463956666711:=0
def tw6639738218110213577:=0
def tw6643134818869784106:=0
def tw6669580472343804073:=0
def tw6685393281406109447:=0
def tw6701838790815586998:=0
def tw6724224123560233927:=0
def tw6746248234504646470:=0
def tw6768505735742166470:=0
def tw6781924068262512196:=0
def tw6799885051394138084:=0
def tw6825928676561170846:=0
def tw6843842852418321700:=0
def tw6856589994649273250:=0
def tw6868411161200673863:=0
def tw6870318188351086890:=0
def tw6903159292511504576:=0
def tw69131647172352817:=0
def tw6928522017356648189:=0
def tw6979154696245760714:=0
def tw7009778167124738643:=0
def tw7091650114609773463:=0
def tw7121681338418635940:=0
def tw7125580002326054008:=0
def tw7199343337025954505:=0
def tw7262446696974671930:=0
def tw7282433119022620946:=0
def tw7285780614144657284:=0
def tw7293364491573387123:=0
def tw7294679542118283847:=0
def tw7314355297896909302:=0
def tw7330162263913351802:=0
def tw733061719385308550:=0
def tw733359966037935364:=0
def tw7348577806795334955:=0
def tw7396783689231477325:=0
def tw7420269603205753960:=0
def tw7420714062226591155:=0
def tw7430003069691251180:=0
def tw7503907829422967190:=0
def tw7508642478872023327:=0
def tw7550474948373562902:=0
def tw7606366074761270718:=0
def tw7627385378461988257:=0
def tw7646416568778238932:=0
def tw7675203299136297508:=0
def tw7724811767829028619:=0
def tw773856754751979674:=0
def tw7751070624692627525:=0
def tw7755682621157534043:=0
def tw776342648634101826:=0
def tw7824842068830950822:=0
def tw7830336835458492751:=0
def tw7835430361726095992:=0
def tw7887691808826916187:=0
def tw7898892894036326327:=0
def tw7964548853960680021:=0
def tw7965876903140437288:=0
def tw7971017599114803792:=0
def tw8012401249070323466:=0
def tw8026604790077833714:=0
def tw8026763927298827209:=0
def tw8028155109875705943:=0
def tw8032387146326027429:=0
def tw8077277682854430610:=0
def tw8123566532344119375:=0
def tw8134776205495949697:=0
def tw8207990654778373537:=0
def tw8218758964723125530:=0
def tw8221525797992543915:=0
def tw8250166665909631533:=0
def tw8300817226357291562:=0
def tw8310194397590649877:=0
def tw8319184616388817086:=0
def tw8344272949527459333:=0
def tw8428682956939997379:=0
def tw8432110909126788801:=0
def tw8437278782384167070:=0
def tw8497677522472283836:=0
def tw8500476253665243425:=0
def tw8578579498844087210:=0
def tw8619049130096867301:=0
def tw865143829733489251:=0
def tw8653172295839384938:=0
def tw8697507620093554382:=0
def tw8724282499521984989:=0
def tw8746211239315185698:=0
def tw8762837450248732316:=0
def tw8782676927709685556:=0
def tw8851746888693684038:=0
def tw8853730321564641017:=0
def tw8877271068895519133:=0
def tw8892070634859554097:=0
def tw8892085850147535678:=0
def tw8923052587759939987:=0
def tw894869785906007983:=0
def tw8992363378037830116:=0
def tw9024299727774019150:=0
def tw9043156092580966649:=0
def tw9063106942342280998:=0
def tw907905971268807151:=0
def tw9102737290940801389:=0
def tw9112857429498407148:=0
def tw9114199049058842025:=0
def tw9125900010677273733:=0
def tw913416716353775261:=0
def tw9137788856357009195:=0
def tw9139342417469617782:=0
def tw9147430747501776546:=0
def tw9148229142908075577:=0
def tw9162516308740024764:=0
def tw9172707578061287144:=0
def tw9180459315487172998:=0
def tw9190961041607826253:=0
def tw9223248448419775414:=0
def tw9223768136960621054:=0
def tw923266954178834576:=0
def tw9254680994315697071:=0
def tw9410462368941861961:=0
def tw9459549594593549409:=0
def tw9494231197694707916:=0
def tw9494900572034610496:=0
def tw9496889481418960684:=0
def tw9502764351074921207:=0
def tw9519467047553515713:=0
def tw9548211924091105430:=0
def tw9560126740040475588:=0
def tw9575728529622651220:=0
def tw9590800999646065988:=0
def tw9611217811197426633:=0
def tw9645936377258818712:=0
def tw9702133185213441701:=0
def tw9710516981184503058:=0
def tw9749131986839269974:=0
def tw9776372381601295064:=0
def tw9778056885466273829:=0
def tw9778528321714234796:=0
def tw9810521652972134229:=0
def tw9815036666278059920:=0
def tw9817029825229852813:=0
def tw9820200344703044277:=0
def tw9835458166096987639:=0
def tw9882991960817940588:=0
def tw9896040716847348668:=0
def tw9937579808365503747:=0
def tw9951743852425569610:=0
def tw995191956011697572:=0
def tw9953984629081756254:=0
def tw9974209528556419374:=0
def tw9983327952618009615:=0
end PySem.W.Fast
open PySem PySem.W PyProof.Rows
set_option maxRecDepth 100000 in
set_option maxHeartbeats 0 in
theorem PySem.Challenge.cw_padwright_k48_widened_and_fields_holds : PySem.Challenge.rw_padwright_k48_widened_and_fields.Holds := by
 w_on;o_law;k_head;(case hw=>w_witness2)
 k_fill
 refine Pw.walk (l:=PySem.Challenge.rw_padwright_k48_widened_and_fields) rfl rfl (fun w h Y=>PySem.W.kIn_of Y) ?F
 case F =>
  intro w mg fa h KX G hmg
  refine' Pw.all_mk KX G hmg ?a0 ?l0 ?c0 ?k0 ?a1 ?l1 ?c1 ?k1 ?a2 ?l2 ?c2 ?k2 ?a3 ?l3 ?c3 ?k3 ?a4 ?l4 ?c4 ?k4 ?a5 ?l5 ?c5 ?k5 ?a6 ?l6 ?c6 ?k6 ?a7 ?l7 ?c7 ?k7 ?a8 ?l8 ?c8 ?k8 ?a9 ?l9 ?c9 ?k9 ?a10 ?l10 ?c10 ?k10 ?a11 ?l11 ?c11 ?k11 ?a12 ?l12 ?c12 ?k12 ?a13 ?l13 ?c13 ?k13 ?a14 ?l14 ?c14 ?k14 ?a15 ?l15 ?c15 ?k15 ?a16 ?l16 ?c16 ?k16 ?a17 ?l17 ?c17 ?k17 ?a18 ?l18 ?c18 ?k18 ?a19 ?l19 ?c19 ?k19 ?a20 ?l20 ?c20 ?k20 ?a21 ?l21 ?c21 ?k21 ?a22 ?l22 ?c22 ?k22 ?a23 ?l23 ?c23 ?k23 ?a24 ?l24 ?c24 ?k24 ?a25 ?l25 ?c25 ?k25 ?a26 ?l26 ?c26 ?k26 ?a27 ?l27 ?c27 ?k27 ?a28 ?l28 ?c28 ?k28 ?a29 ?l29 ?c29 ?k29 ?a30 ?l30 ?c30 ?k30 ?a31 ?l31 ?c31 ?k31 ?a32 ?l32 ?c32 ?k32 ?a33 ?l33 ?c33 ?k33 ?a34 ?l34 ?c34 ?k34 ?a35 ?l35 ?c35 ?k35 ?a36 ?l36 ?c36 ?k36 ?a37 ?l37 ?c37 ?k37 ?a38 ?l38 ?c38 ?k38 ?a39 ?l39 ?c39 ?k39 ?a40 ?l40 ?c40 ?k40 ?a41 ?l41 ?c41 ?k41 ?a42 ?l42 ?c42 ?k42 ?a43 ?l43 ?c43 ?k43 ?a44 ?l44 ?c44 ?k44 ?a45 ?l45 ?c45 ?k45 ?a46 ?l46 ?c46 ?k46 ?a47 ?l47 ?c47 ?k47 ?a48 ?l48 ?c48 ?k48 ?a49 ?l49 ?c49 ?k49 ?a50 ?l50 ?c50 ?k50 ?a51 ?l51 ?c51 ?k51 ?a52 ?l52 ?c52 ?k52 ?a53 ?l53 ?c53 ?k53 ?a54 ?l54 ?c54 ?k54 ?a55 ?l55 ?c55 ?k55 ?a56 ?l56 ?c56 ?k56 ?a57 ?l57 ?c57 ?k57 ?a58 ?l58 ?c58 ?k58 ?a59 ?l59 ?c59 ?k59 ?a60 ?l60 ?c60 ?k60 ?a61 ?l61 ?c61 ?k61 ?a62 ?l62 ?c62 ?k62 ?a63 ?l63 ?c63 ?k63 ?a64 ?l64 ?c64 ?k64 ?a65 ?l65 ?c65 ?k65 ?a66 ?l66 ?c66 ?k66 ?a67 ?l67 ?c67 ?k67 ?a68 ?l68 ?c68 ?k68 ?a69 ?l69 ?c69 ?k69 ?a70 ?l70 ?c70 ?k70 ?a71 ?l71 ?c71 ?k71 ?a72 ?l72 ?c72 ?k72 ?a73 ?l73 ?c73 ?k73 ?a74 ?l74 ?c74 ?k74 ?a75 ?l75 ?c75 ?k75 ?a76 ?l76 ?c76 ?k76 ?z_len ?z_range ?z_isinstance ?z_str ?z_max ?z_min ?z_int ?z_bool ?z_abs ?z_list ?z_tuple ?z_all ?z_sorted ?n_FIGURES ?n_STYLES ?n_MOST_SIGNS ?n_MOST_FIGURES ?n_NoFigures ?n_NoGroups ?n_NoBody ?n_NoCore ?n_TooWide ?n_Form ?n_NumberForm ?n_WordForm ?n_ChoiceForm ?ex_NoFigures ?h1_NoFigures ?h2_NoFigures ?hb_NoFigures ?hd_NoFigures ?ha_NoFigures ?hn_NoFigures ?ht_NoFigures ?hm_NoFigures ?ex_NoGroups ?h1_NoGroups ?h2_NoGroups ?hb_NoGroups ?hd_NoGroups ?ha_NoGroups ?hn_NoGroups ?ht_NoGroups ?hm_NoGroups ?ex_NoBody ?h1_NoBody ?h2_NoBody ?hb_NoBody ?hd_NoBody ?ha_NoBody ?hn_NoBody ?ht_NoBody ?hm_NoBody ?ex_NoCore ?h1_NoCore ?h2_NoCore ?hb_NoCore ?hd_NoCore ?ha_NoCore ?hn_NoCore ?ht_NoCore ?hm_NoCore ?ex_TooWide ?h1_TooWide ?h2_TooWide ?hb_TooWide ?hd_TooWide ?ha_TooWide ?hn_TooWide ?ht_TooWide ?hm_TooWide ?sty ?xg ?xf ?xc ?xb ?xw ?ihn ?iht ?nha ?nhm ?nk1 ?nk2 ?nk3 ?nk4 ?wha ?whm ?wk1 ?wk2 ?wk3 ?wk4 ?cha ?chm ?ck1 ?ck2 ?ck3 ?ck4 ?K1_NumberForm ?K2_NumberForm ?K3_NumberForm ?K4_NumberForm ?N_NumberForm_width ?N_NumberForm_fill ?N_NumberForm_side ?N_NumberForm_strict ?N_NumberForm_figures ?N_NumberForm_places ?N_NumberForm_base ?N_NumberForm_sign ?N_NumberForm_size ?N_NumberForm_mark ?N_NumberForm_point ?N_NumberForm_way ?K1_WordForm ?K2_WordForm ?K3_WordForm ?K4_WordForm ?N_WordForm_width ?N_WordForm_fill ?N_WordForm_side ?N_WordForm_strict ?N_WordForm_signs ?N_WordForm_least ?N_WordForm_most ?K1_ChoiceForm ?K2_ChoiceForm ?K3_ChoiceForm ?K4_ChoiceForm ?N_ChoiceForm_width ?N_ChoiceForm_fill ?N_ChoiceForm_side ?N_ChoiceForm_strict ?N_ChoiceForm_names ?C1_Form_init ?C2_Form_init ?C3_Form_init ?Fn_NumberForm_is_too_great ?Ma_NumberForm_is_too_great ?Fn_NumberForm_lead_of ?Ma_NumberForm_lead_of ?Fn_WordForm_is_word ?Ma_WordForm_is_word ?Fn_NumberForm_core ?Ma_NumberForm_core ?Fn_WordForm_core ?Ma_WordForm_core ?Fn_ChoiceForm_core ?Ma_ChoiceForm_core ?Fn_Form_is_too_wide ?Ma_NumberForm_is_too_wide ?Ma_WordForm_is_too_wide ?Ma_ChoiceForm_is_too_wide ?Fn_Form_filled ?Ma_NumberForm_filled ?Ma_WordForm_filled ?Ma_ChoiceForm_filled ?Fn_Form_unfilled ?Ma_NumberForm_unfilled ?Fn_NumberForm_number_with ?Ma_NumberForm_number_with ?Fn_NumberForm_cores_in ?Ma_NumberForm_cores_in ?Fn_NumberForm_numbers_in ?Ma_NumberForm_numbers_in ?Ma_ChoiceForm_unfilled ?Ma_WordForm_unfilled ?Fn_NumberForm___init__ ?I1_NumberForm ?I2_NumberForm ?I4_NumberForm ?Fn_WordForm___init__ ?I1_WordForm ?I2_WordForm ?I4_WordForm ?Fn_ChoiceForm___init__ ?I1_ChoiceForm ?I2_ChoiceForm ?I4_ChoiceForm ?Fn_Form_put ?Ma_NumberForm_put ?Ma_WordForm_put ?Ma_ChoiceForm_put ?Fn_NumberForm_widened ?Ma_NumberForm_widened ?Fn_WordForm_widened ?Ma_WordForm_widened ?Fn_ChoiceForm_widened ?Ma_ChoiceForm_widened ?Fn_NumberForm_values_for ?Ma_NumberForm_values_for ?Fn_WordForm_values_for ?Ma_WordForm_values_for ?Fn_ChoiceForm_values_for ?Ma_ChoiceForm_values_for ?dl23 ?dl24 ?dl25 ?rv24_0 ?rv24_1 ?rv24_2 ?rv24_3 ?rv25_0 ?rv25_1 ?rv25_2 ?rv25_3 ?rv25_4 ?rv25_5 ?rv25_6 ?rv25_7 ?rv25_8 ?rv25_9 ?rv23_0 ?rv23_1 ?rv23_2 ?rv23_3
  (case n_NoFigures=>k_is)
  (case n_NoGroups=>k_is)
  (case n_NoBody=>k_is)
  (case n_NoCore=>k_is)
  (case n_TooWide=>k_is)
  (case n_Form=>k_is)
  (case n_NumberForm=>k_is)
  (case n_WordForm=>k_is)
  (case n_ChoiceForm=>k_is)
  (case a0=>k_is);(case l0=>k_is);(case c0=>k_is);(case k0=>k_is)
  (case a1=>k_is);(case l1=>k_is);(case c1=>k_is);(case k1=>k_is)
  (case a2=>k_is);(case l2=>k_is);(case c2=>k_is);(case k2=>k_is)
  (case a3=>k_is);(case l3=>k_is);(case c3=>k_is);(case k3=>k_is)
  (case a4=>k_is);(case l4=>k_is);(case c4=>k_is);(case k4=>k_is)
  (case a5=>k_is);(case l5=>k_is);(case c5=>k_is);(case k5=>k_is)
  (case a6=>k_is);(case l6=>k_is);(case c6=>k_is);(case k6=>k_is)
  (case a7=>k_is);(case l7=>k_is);(case c7=>k_is);(case k7=>k_is)
  (case a8=>k_is);(case l8=>k_is);(case c8=>k_is);(case k8=>k_is)
  (case a9=>k_is);(case l9=>k_is);(case c9=>k_is);(case k9=>k_is)
  (case a10=>k_is);(case l10=>k_is);(case c10=>k_is);(case k10=>k_is)
  (case a11=>k_is);(case l11=>k_is);(case c11=>k_is);(case k11=>k_is)
  (case a12=>k_is);(case l12=>k_is);(case c12=>k_is);(case k12=>k_is)
  (case a13=>k_is);(case l13=>k_is);(case c13=>k_is);(case k13=>k_is)
  (case a14=>k_is);(case l14=>k_is);(case c14=>k_is);(case k14=>k_is)
  (case a15=>k_is);(case l15=>k_is);(case c15=>k_is);(case k15=>k_is)
  (case a16=>k_is);(case l16=>k_is);(case c16=>k_is);(case k16=>k_is)
  (case a17=>k_is);(case l17=>k_is);(case c17=>k_is);(case k17=>k_is)
  (case a18=>k_is);(case l18=>k_is);(case c18=>k_is);(case k18=>k_is)
  (case a19=>k_is);(case l19=>k_is);(case c19=>k_is);(case k19=>k_is)
  (case a20=>k_is);(case l20=>k_is);(case c20=>k_is);(case k20=>k_is)
  (case a21=>k_is);(case l21=>k_is);(case c21=>k_is);(case k21=>k_is)
  (case a22=>k_is);(case l22=>k_is);(case c22=>k_is);(case k22=>k_is)
  (case a23=>k_is);(case l23=>k_is);(case c23=>k_is);(case k23=>k_is)
  (case a24=>k_is);(case l24=>k_is);(case c24=>k_is);(case k24=>k_is)
  (case a25=>k_is);(case l25=>k_is);(case c25=>k_is);(case k25=>k_is)
  (case a26=>k_is);(case l26=>k_is);(case c26=>k_is);(case k26=>k_is)
  (case a27=>k_is);(case l27=>k_is);(case c27=>k_is);(case k27=>k_is)
  (case a28=>k_is);(case l28=>k_is);(case c28=>k_is);(case k28=>k_is)
  (case a29=>k_is);(case l29=>k_is);(case c29=>k_is);(case k29=>k_is)
  (case a30=>k_is);(case l30=>k_is);(case c30=>k_is);(case k30=>k_is)
  (case a31=>k_is);(case l31=>k_is);(case c31=>k_is);(case k31=>k_is)
  (case a32=>k_is);(case l32=>k_is);(case c32=>k_is);(case k32=>k_is)
  (case a33=>k_is);(case l33=>k_is);(case c33=>k_is);(case k33=>k_is)
  (case a34=>k_is);(case l34=>k_is);(case c34=>k_is);(case k34=>k_is)
  (case a35=>k_is);(case l35=>k_is);(case c35=>k_is);(case k35=>k_is)
  (case a36=>k_is);(case l36=>k_is);(case c36=>k_is);(case k36=>k_is)
  (case a37=>k_is);(case l37=>k_is);(case c37=>k_is);(case k37=>k_is)
  (case a38=>k_is);(case l38=>k_is);(case c38=>k_is);(case k38=>k_is)
  (case a39=>k_is);(case l39=>k_is);(case c39=>k_is);(case k39=>k_is)
  (case a40=>k_is);(case l40=>k_is);(case c40=>k_is);(case k40=>k_is)
  (case a41=>k_is);(case l41=>k_is);(case c41=>k_is);(case k41=>k_is)
  (case a42=>k_is);(case l42=>k_is);(case c42=>k_is);(case k42=>k_is)
  (case a43=>k_is);(case l43=>k_is);(case c43=>k_is);(case k43=>k_is)
  (case a44=>k_is);(case l44=>k_is);(case c44=>k_is);(case k44=>k_is)
  (case a45=>k_is);(case l45=>k_is);(case c45=>k_is);(case k45=>k_is)
  (case a46=>k_is);(case l46=>k_is);(case c46=>k_is);(case k46=>k_is)
  (case a47=>k_is);(case l47=>k_is);(case c47=>k_is);(case k47=>k_is)
  (case a48=>k_is);(case l48=>k_is);(case c48=>k_is);(case k48=>k_is)
  (case a49=>k_is);(case l49=>k_is);(case c49=>k_is);(case k49=>k_is)
  (case a50=>k_is);(case l50=>k_is);(case c50=>k_is);(case k50=>k_is)
  (case a51=>k_is);(case l51=>k_is);(case c51=>k_is);(case k51=>k_is)
  (case a52=>k_is);(case l52=>k_is);(case c52=>k_is);(case k52=>k_is)
  (case a53=>k_is);(case l53=>k_is);(case c53=>k_is);(case k53=>k_is)
  (case a54=>k_is);(case l54=>k_is);(case c54=>k_is);(case k54=>k_is)
  (case a55=>k_is);(case l55=>k_is);(case c55=>k_is);(case k55=>k_is)
  (case a56=>k_is);(case l56=>k_is);(case c56=>k_is);(case k56=>k_is)
  (case a57=>k_is);(case l57=>k_is);(case c57=>k_is);(case k57=>k_is)
  (case a58=>k_is);(case l58=>k_is);(case c58=>k_is);(case k58=>k_is)
  (case a59=>k_is);(case l59=>k_is);(case c59=>k_is);(case k59=>k_is)
  (case a60=>k_is);(case l60=>k_is);(case c60=>k_is);(case k60=>k_is)
  (case a61=>k_is);(case l61=>k_is);(case c61=>k_is);(case k61=>k_is)
  (case a62=>k_is);(case l62=>k_is);(case c62=>k_is);(case k62=>k_is)
  (case a63=>k_is);(case l63=>k_is);(case c63=>k_is);(case k63=>k_is)
  (case a64=>k_is);(case l64=>k_is);(case c64=>k_is);(case k64=>k_is)
  (case a65=>k_is);(case l65=>k_is);(case c65=>k_is);(case k65=>k_is)
  (case a66=>k_is);(case l66=>k_is);(case c66=>k_is);(case k66=>k_is)
  (case a67=>k_is);(case l67=>k_is);(case c67=>k_is);(case k67=>k_is)
  (case a68=>k_is);(case l68=>k_is);(case c68=>k_is);(case k68=>k_is)
  (case a69=>k_is);(case l69=>k_is);(case c69=>k_is);(case k69=>k_is)
  (case a70=>k_is);(case l70=>k_is);(case c70=>k_is);(case k70=>k_is)
  (case a71=>k_is);(case l71=>k_is);(case c71=>k_is);(case k71=>k_is)
  (case a72=>k_is);(case l72=>k_is);(case c72=>k_is);(case k72=>k_is)
  (case a73=>k_is);(case l73=>k_is);(case c73=>k_is);(case k73=>k_is)
  (case a74=>k_is);(case l74=>k_is);(case c74=>k_is);(case k74=>k_is)
  (case a75=>k_is);(case l75=>k_is);(case c75=>k_is);(case k75=>k_is)
  (case a76=>k_is);(case l76=>k_is);(case c76=>k_is);(case k76=>k_is)
  (case z_len=>k_is)
  (case z_range=>k_is)
  (case z_isinstance=>k_is)
  (case z_str=>k_is)
  (case z_max=>k_is)
  (case z_min=>k_is)
  (case z_int=>k_is)
  (case z_bool=>k_is)
  (case z_abs=>k_is)
  (case z_list=>k_is)
  (case z_tuple=>k_is)
  (case z_all=>k_is)
  (case z_sorted=>k_is)
  (case n_FIGURES=>k_is)
  (case n_STYLES=>k_is)
  (case n_MOST_SIGNS=>k_is)
  (case n_MOST_FIGURES=>k_is)
  (case ex_NoFigures=>k_exc)
  (case h1_NoFigures=>k_is)
  (case h2_NoFigures=>k_is)
  (case hb_NoFigures=>k_is)
  (case hd_NoFigures=>k_is)
  (case ha_NoFigures=>k_is)
  (case hn_NoFigures=>k_is)
  (case ht_NoFigures=>k_is)
  (case hm_NoFigures=>k_is)
  (case ex_NoGroups=>k_exc)
  (case h1_NoGroups=>k_is)
  (case h2_NoGroups=>k_is)
  (case hb_NoGroups=>k_is)
  (case hd_NoGroups=>k_is)
  (case ha_NoGroups=>k_is)
  (case hn_NoGroups=>k_is)
  (case ht_NoGroups=>k_is)
  (case hm_NoGroups=>k_is)
  (case ex_NoBody=>k_exc)
  (case h1_NoBody=>k_is)
  (case h2_NoBody=>k_is)
  (case hb_NoBody=>k_is)
  (case hd_NoBody=>k_is)
  (case ha_NoBody=>k_is)
  (case hn_NoBody=>k_is)
  (case ht_NoBody=>k_is)
  (case hm_NoBody=>k_is)
  (case ex_NoCore=>k_exc)
  (case h1_NoCore=>k_is)
  (case h2_NoCore=>k_is)
  (case hb_NoCore=>k_is)
  (case hd_NoCore=>k_is)
  (case ha_NoCore=>k_is)
  (case hn_NoCore=>k_is)
  (case ht_NoCore=>k_is)
  (case hm_NoCore=>k_is)
  (case ex_TooWide=>k_exc)
  (case h1_TooWide=>k_is)
  (case h2_TooWide=>k_is)
  (case hb_TooWide=>k_is)
  (case hd_TooWide=>k_is)
  (case ha_TooWide=>k_is)
  (case hn_TooWide=>k_is)
  (case ht_TooWide=>k_is)
  (case hm_TooWide=>k_is)
  (case sty=>(refine' L2.sty_mk ?d ?hp0 ?ha0 ?hb0 ?hp1 ?ha1 ?hb1 ?hp2 ?ha2 ?hb2 ?hp3 ?ha3 ?hb3 ?hp4 ?ha4 ?hb4);(case d=>k_is);(case hp0=>k_is);(case ha0=>k_is);(case hb0=>k_is);(case hp1=>k_is);(case ha1=>k_is);(case hb1=>k_is);(case hp2=>k_is);(case ha2=>k_is);(case hb2=>k_is);(case hp3=>k_is);(case ha3=>k_is);(case hb3=>k_is);(case hp4=>k_is);(case ha4=>k_is);(case hb4=>k_is))
  (case xg=>kts_exm)
  (case xf=>kts_exm)
  (case xc=>kts_exm)
  (case xb=>kts_exm)
  (case xw=>kts_exm)
  (case ihn=>k_is)
  (case iht=>k_is)
  (case nha=>k_is)
  (case nhm=>k_is)
  (case nk1=>kit_is)
  (case nk2=>kit_is)
  (case nk3=>kit_is)
  (case nk4=>kit_is)
  (case wha=>k_is)
  (case whm=>k_is)
  (case wk1=>kit_is)
  (case wk2=>kit_is)
  (case wk3=>kit_is)
  (case wk4=>kit_is)
  (case cha=>k_is)
  (case chm=>k_is)
  (case ck1=>kit_is)
  (case ck2=>kit_is)
  (case ck3=>kit_is)
  (case ck4=>kit_is)
  (case K1_NumberForm=>k_is)
  (case K2_NumberForm=>k_is)
  (case K3_NumberForm=>k_is)
  (case K4_NumberForm=>k_is)
  (case N_NumberForm_width=>k_is)
  (case N_NumberForm_fill=>k_is)
  (case N_NumberForm_side=>k_is)
  (case N_NumberForm_strict=>k_is)
  (case N_NumberForm_figures=>k_is)
  (case N_NumberForm_places=>k_is)
  (case N_NumberForm_base=>k_is)
  (case N_NumberForm_sign=>k_is)
  (case N_NumberForm_size=>k_is)
  (case N_NumberForm_mark=>k_is)
  (case N_NumberForm_point=>k_is)
  (case N_NumberForm_way=>k_is)
  (case K1_WordForm=>k_is)
  (case K2_WordForm=>k_is)
  (case K3_WordForm=>k_is)
  (case K4_WordForm=>k_is)
  (case N_WordForm_width=>k_is)
  (case N_WordForm_fill=>k_is)
  (case N_WordForm_side=>k_is)
  (case N_WordForm_strict=>k_is)
  (case N_WordForm_signs=>k_is)
  (case N_WordForm_least=>k_is)
  (case N_WordForm_most=>k_is)
  (case K1_ChoiceForm=>k_is)
  (case K2_ChoiceForm=>k_is)
  (case K3_ChoiceForm=>k_is)
  (case K4_ChoiceForm=>k_is)
  (case N_ChoiceForm_width=>k_is)
  (case N_ChoiceForm_fill=>k_is)
  (case N_ChoiceForm_side=>k_is)
  (case N_ChoiceForm_strict=>k_is)
  (case N_ChoiceForm_names=>k_is)
  (case C1_Form_init=>k_is)
  (case C2_Form_init=>k_is)
  (case C3_Form_init=>k_is)
  (case Fn_NumberForm_is_too_great=>k_is)
  (case Ma_NumberForm_is_too_great=>k_is)
  (case Fn_NumberForm_lead_of=>k_is)
  (case Ma_NumberForm_lead_of=>k_is)
  (case Fn_WordForm_is_word=>k_is)
  (case Ma_WordForm_is_word=>k_is)
  (case Fn_NumberForm_core=>k_is)
  (case Ma_NumberForm_core=>k_is)
  (case Fn_WordForm_core=>k_is)
  (case Ma_WordForm_core=>k_is)
  (case Fn_ChoiceForm_core=>k_is)
  (case Ma_ChoiceForm_core=>k_is)
  (case Fn_Form_is_too_wide=>k_is)
  (case Ma_NumberForm_is_too_wide=>k_is)
  (case Ma_WordForm_is_too_wide=>k_is)
  (case Ma_ChoiceForm_is_too_wide=>k_is)
  (case Fn_Form_filled=>k_is)
  (case Ma_NumberForm_filled=>k_is)
  (case Ma_WordForm_filled=>k_is)
  (case Ma_ChoiceForm_filled=>k_is)
  (case Fn_Form_unfilled=>k_is)
  (case Ma_NumberForm_unfilled=>k_is)
  (case Fn_NumberForm_number_with=>k_is)
  (case Ma_NumberForm_number_with=>k_is)
  (case Fn_NumberForm_cores_in=>k_is)
  (case Ma_NumberForm_cores_in=>k_is)
  (case Fn_NumberForm_numbers_in=>k_is)
  (case Ma_NumberForm_numbers_in=>k_is)
  (case Ma_ChoiceForm_unfilled=>k_is)
  (case Ma_WordForm_unfilled=>k_is)
  (case Fn_NumberForm___init__=>k_is)
  (case I1_NumberForm=>k_is)
  (case I2_NumberForm=>k_is)
  (case I4_NumberForm=>k_is)
  (case Fn_WordForm___init__=>k_is)
  (case I1_WordForm=>k_is)
  (case I2_WordForm=>k_is)
  (case I4_WordForm=>k_is)
  (case Fn_ChoiceForm___init__=>k_is)
  (case I1_ChoiceForm=>k_is)
  (case I2_ChoiceForm=>k_is)
  (case I4_ChoiceForm=>k_is)
  (case Fn_Form_put=>k_is)
  (case Ma_NumberForm_put=>k_is)
  (case Ma_WordForm_put=>k_is)
  (case Ma_ChoiceForm_put=>k_is)
  (case Fn_NumberForm_widened=>k_is)
  (case Ma_NumberForm_widened=>k_is)
  (case Fn_WordForm_widened=>k_is)
  (case Ma_WordForm_widened=>k_is)
  (case Fn_ChoiceForm_widened=>k_is)
  (case Ma_ChoiceForm_widened=>k_is)
  (case Fn_NumberForm_values_for=>k_is)
  (case Ma_NumberForm_values_for=>k_is)
  (case Fn_WordForm_values_for=>k_is)
  (case Ma_WordForm_values_for=>k_is)
  (case Fn_ChoiceForm_values_for=>k_is)
  (case Ma_ChoiceForm_values_for=>k_is)
  (case dl23=>k_is)
  (case dl24=>k_is)
  (case dl25=>k_is)
  (case rv24_0=>exact ⟨_,rfl⟩)
  (case rv24_1=>exact L2.relS (by decide +kernel))
  (case rv24_2=>exact L2.relS (by decide +kernel))
  (case rv24_3=>exact rfl)
  (case rv25_0=>exact ⟨_,rfl⟩)
  (case rv25_1=>exact L2.relS (by decide +kernel))
  (case rv25_2=>exact ⟨_,rfl⟩)
  (case rv25_3=>exact L2.relS (by decide +kernel))
  (case rv25_4=>exact L2.relS (by decide +kernel))
  (case rv25_5=>exact L2.relS (by decide +kernel))
  (case rv25_6=>exact ⟨_,rfl⟩)
  (case rv25_7=>exact L2.relS (by decide +kernel))
  (case rv25_8=>exact L2.relS (by decide +kernel))
  (case rv25_9=>exact rfl)
  (case rv23_0=>exact ⟨_,rfl⟩)
  (case rv23_1=>exact L2.relS (by decide +kernel))
  (case rv23_2=>exact L2.relS (by decide +kernel))
  (case rv23_3=>exact rfl)

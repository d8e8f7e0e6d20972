import PyProof.Rows.All
import KE.KDictList
import KE.KFromBytes
import KE.KItem
import KE.KNestM
import KE.KTryMore
import KE.RegKIsAll
import Wide.FinOn
import PySem.Challenge.RW_padwright_k54_forms_shown
set_option Elab.async false
set_option linter.all false
set_option maxRecDepth 100000
namespace L2
open PySem PySem.Spec PyProof.Rows
abbrev Key:=Sum Int Str
def keyIs:Key→Value→Bool
 | .inl k,v=>Value.isInt k v
 | .inr x,v=>Value.isStrOf x v
def keyH (w:World):Key→Int
 | .inl k=>hashInt k
 | .inr x=>hashStr w x
theorem keyIs_shape : ∀ {k : Key} {v : Value}, keyIs k v = true → (∃ i t, k = Sum.inl i ∧ v = Value.int i t) ∨ (∃ x t, k = Sum.inr x ∧ v = Value.str x t)
  | .inl i, v, h => by
    obtain ⟨t, e⟩ := Value.isInt_shape (k := i) (v := v) h
    exact .inl ⟨i, t, rfl, e⟩
  | .inr x, v, h => by
    obtain ⟨t, e⟩ := Value.isStrOf_shape (x := x) (v := v) h
    exact .inr ⟨x, t, rfl, e⟩
theorem key_ll (a b:Int):decide ((Sum.inl a:Key)=Sum.inl b)=(a == b):=by
 by_cases e:a=b
 ·subst e;simp
 ·have h : ¬ (Sum.inl a:Key)=Sum.inl b:=fun q=>e (Sum.inl.inj q)
  rw [decide_eq_false h]
  exact (beq_eq_false_iff_ne.mpr e).symm
theorem key_rr (a b:Str):decide ((Sum.inr a:Key)=Sum.inr b)=decide (a=b):=by
 by_cases e:a=b
 ·subst e;simp
 ·have h : ¬ (Sum.inr a:Key)=Sum.inr b:=fun q=>e (Sum.inr.inj q)
  rw [decide_eq_false h,decide_eq_false e]
theorem key_lr (a:Int) (b:Str):decide ((Sum.inl a:Key)=Sum.inr b)=false:=decide_eq_false (fun q=>nomatch q)
theorem key_rl (a:Str) (b:Int):decide ((Sum.inr a:Key)=Sum.inl b)=false:=decide_eq_false (fun q=>nomatch q)
def mixKind (prog:Program) (w:World):PySem.KeyKind prog w Key where
 is:=keyIs
 hash:=keyH w
 inj:=fun v a b ha hb=>by
  rcases keyIs_shape ha with ⟨i,t,rfl,rfl⟩ | ⟨x,t,rfl,rfl⟩
  ·rcases keyIs_shape hb with ⟨j,u,rfl,e⟩ | ⟨y,u,rfl,e⟩
   ·injection e with e1 _;rw [e1]
   ·exact nomatch e
  ·rcases keyIs_shape hb with ⟨j,u,rfl,e⟩ | ⟨y,u,rfl,e⟩
   ·exact nomatch e
   ·injection e with e1 _;rw [e1]
 byValue:=fun k v h=>by
  rcases keyIs_shape h with ⟨i,t,rfl,rfl⟩ | ⟨x,t,rfl,rfl⟩ <;> rfl
 pyHash:=fun hv h=>by
  rcases keyIs_shape hv with ⟨i,t,rfl,rfl⟩ | ⟨x,t,rfl,rfl⟩
  ·exact wpAny_pyHash_int h
  ·exact wpAny_pyHash_str h
 eqBool:=fun hu hv h=>by
  rcases keyIs_shape hu with ⟨i,t,rfl,rfl⟩ | ⟨x,t,rfl,rfl⟩
  ·rcases keyIs_shape hv with ⟨j,u,rfl,rfl⟩ | ⟨y,u,rfl,rfl⟩
   ·rw [key_ll] at h;exact wpAny_eqBool_int h
   ·rw [key_lr] at h;exact SeqAt.EqAt.int_str i t y u _ _ _ _ h
  ·rcases keyIs_shape hv with ⟨j,u,rfl,rfl⟩ | ⟨y,u,rfl,rfl⟩
   ·rw [key_rl] at h;exact SeqAt.EqAt.str_int x t j u _ _ _ _ h
   ·rw [key_rr] at h;exact wpAny_eqBool_str h
 «strs» := fun k x t v h=>by
  rcases keyIs_shape h with ⟨i,u,rfl,e⟩ | ⟨y,u,rfl,e⟩
  ·exact nomatch e
  ·injection e with e1 _
   subst e1
   cases v <;> rfl
inductive V where
 | non | bl (b:Bool) | int (i:Int) | str (x:Str) | byt (b:Array UInt8) | flt (b:UInt64) | ref (a:Addr) | ty (n:String)
 deriving DecidableEq
def RelV:V→Value→Prop
 | .non,u=>u=Value.none
 | .bl b,u=>u=Value.bool b
 | .int i,u=>∃ t,u=Value.int i t
 | .str x,u=>∃ t,u=Value.str x t
 | .byt b,u=>∃ t,u=Value.bytes b t
 | .flt b,u=>∃ t,u=Value.float b t
 | .ref a,u=>u=Value.ref a
 | .ty n,u=>u=Value.type n
abbrev Vals:List V→List Value→Prop:=Paired RelV
theorem Vals.length {xs:List V} {us:List Value} (r:Vals xs us):xs.length=us.length:=Paired.length r
theorem Vals.get : ∀ {xs : List V} {us : List Value} {i : Nat} {x : V}, Vals xs us → xs[i]? = some x → ∃ u, us[i]? = some u ∧ RelV x u
  | _, _, _, _, .nil, e => by simp at e
  | _, _, 0, _, .cons r _, e => by simp at e; subst e; exact ⟨_, rfl, r⟩
  | _, _, i + 1, x, .cons _ t, e => by
    obtain ⟨u, h1, h2⟩ := Vals.get (i := i) (x := x) t (by simpa using e)
    exact ⟨u, by simpa using h1, h2⟩
theorem Vals.set {x:V} {u:Value} (r:RelV x u) : ∀ {xs:List V} {us:List Value} (i:Nat),Vals xs us→Vals (xs.set i x) (us.set i u)
 | _,_,_,.nil=>.nil
 | _,_,0,.cons _ t=>.cons r t
 | _,_,i+1,.cons q t=>.cons q (Vals.set r i t)
theorem Vals.append : ∀ {xs ys:List V} {us ws:List Value},Vals xs us→Vals ys ws→Vals (xs++ys) (us++ws)
 | _,_,_,_,.nil,s=>s
 | _,_,_,_,.cons r t,s=>.cons r (Vals.append t s)
theorem Vals.take : ∀ {xs:List V} {us:List Value} (n:Nat),Vals xs us→Vals (xs.take n) (us.take n)
 | _,_,0,_=>.nil
 | _,_,_+1,.nil=>.nil
 | _,_,n+1,.cons r t=>.cons r (Vals.take n t)
theorem Vals.drop : ∀ {xs:List V} {us:List Value} (n:Nat),Vals xs us→Vals (xs.drop n) (us.drop n)
 | _,_,0,r=>r
 | _,_,_+1,.nil=>.nil
 | _,_,n+1,.cons _ t=>Vals.drop n t
theorem Vals.none_of : ∀ {xs:List V} {us:List Value} {i:Nat},Vals xs us→xs[i]? = none→us[i]? = none:=fun {xs us i} r e=>by
 have h1:=r.length
 have h2:xs.length≤i:=List.getElem?_eq_none_iff.mp e
 exact List.getElem?_eq_none_iff.mpr (by omega)
def RelO:Option V→Option Value→Prop
 | some v,some u=>RelV v u
 | none,none=>True
 | _,_=>False
def KV {κ:Type}:List (κ × V)→List (κ × Value)→Prop:=Paired fun (p:κ × V) (q:κ × Value)=>p.1=q.1∧RelV p.2 q.2
def kV:Key→V
 | .inl i=>.int i
 | .inr x=>.str x
inductive HO where
 | lst (xs:List V)
 | tup (xs:List V)
 | dK (kvs:List (Key × V)) | dT (kvs:List (List Key × V))
 | set (S:Int→Bool) (n:Nat)
 | ins (C dx:Addr) (fs:List (Str × V))
 | own (x:Addr)
 | xd (fs:List (Str × V))
 | met (f x:Addr)
 | rng (lo hi:Int)
 | frz (o:Obj) (u:HO)
 | tbl (ps:Array Value)
 | ext (φ:Heap→Prop)
abbrev Hp:=Addr→Option HO
def upd (H:Hp) (a:Addr) (o:HO):Hp:=fun b=>if b=a then some o else H b
theorem upd_same {H:Hp} {a:Addr} {o:HO}:upd H a o a=some o:=by unfold upd;rw [if_pos rfl]
theorem upd_ne {H:Hp} {a b:Addr} {o:HO} (h:b≠a):upd H a o b=H b:=by unfold upd;rw [if_neg h]
theorem upd_upd {H:Hp} {a:Addr} {o u:HO}:upd (upd H a o) a u=upd H a u:=by
 funext b;unfold upd;split <;> rfl
theorem ne_of_none {H:Hp} {a b:Addr} {o:HO} (h:H a=some o) (h':H b=none):a≠b:=by
 intro e;subst e;rw [h] at h';cases h'
section
variable (P : Program) (w : World)
def ObjOk (H:Hp) (h:Heap) (a:Addr):HO→Prop
 | .lst xs=>xs.length≤sizeLine ∧ ∃ (its:List Value) (n:Nat),Vals xs its∧h.get? a=some { cls:=.type "list", data:=.seq its.toArray n }
 | .tup xs=>xs.length≤sizeLine ∧ ∃ its:List Value,Vals xs its∧IsTup h a its.toArray
 | .dK kvs=>kvs.length≤sizeLine∧(a == sysModules)=false ∧ ∃ vs,KV kvs vs∧h.DictOf (mixKind P w) a vs
 | .dT kvs=>kvs.length≤sizeLine∧(a == sysModules)=false ∧ ∃ xs:List (List Key × Addr × Value),
   Paired (fun (p:List Key × V) (q:List Key × Addr × Value)=>p.1=q.1∧H q.2.1=some (.tup (p.1.map kV))∧RelV p.2 q.2.2) kvs xs ∧
   ∃ o es ep,h.get? a=some o∧o.ExactDict∧o.data = .dict es ep∧es.toList=xs.map (entryOfKey (tupleKind (mixKind P w)))∧(xs.map (·.1)).Nodup
 | .set S n=>h.SetOf (intKind P w) a S n
 | .ins C dx fs=>H dx=some (.own a)∧fs.length≤1000∧dx≠a∧h.get? a=some (W.instObj C dx) ∧
   ∃ mA,h.Ns1 dx mA∧(∀ f,RelO (fs.lookup f) (mA f))∧PySem.Within mA (fs.map (·.1))
 | .own _=>∃ o,h.get? a=some o
 | .xd fs=>∃ mA,h.Ns1 a mA ∧ ∀ f,RelO (fs.lookup f) (mA f)
 | .rng lo hi=>∃ t u v,h.get? a=some { cls:=.type "range", data:=.fields #[.int lo t,.int hi u,.int 1 v] }
 | .frz o u=>h.get? a=some o∧ObjOk H h a u
 | .tbl ps=>h.get? a=some { cls:=.none,data:=.fields ps }
 | .met f x=>h.get? a=some (W.methodObj (.ref f) (.ref x))
 | .ext φ=>φ h∧(∃ o,h.get? a=some o) ∧ ∀ h1 h2:Heap,φ h1→(∀ o,h1.get? a=some o→h2.get? a=some o)→φ h2
def HOk (H:Hp) (h:Heap):Prop:=∀ a o,H a=some o→ObjOk P w H h a o
end
section
variable {P : Program} {w : World} {H H' : Hp} {h h' : Heap} {a : Addr} {o : HO}
theorem ObjOk.lt (x:ObjOk P w H h a o):a < h.objs.size:=by
 cases o with
 | lst xs=>obtain ⟨_,_,_,_,e⟩:=x;exact Heap.lt_size e
 | tup xs=>obtain ⟨_,_,_,p⟩:=x;exact p.lt
 | dK kvs=>obtain ⟨_,_,_,_,o,_,_,e,_⟩:=x;exact Heap.lt_size e
 | dT kvs=>obtain ⟨_,_,_,_,o,_,_,e,_⟩:=x;exact Heap.lt_size e
 | set S n=>obtain ⟨o,_,_,_,e,_⟩:=x;exact Heap.lt_size e
 | ins C dx fs=>obtain ⟨_,_,_,e,_⟩:=x;exact Heap.lt_size e
 | own y=>obtain ⟨_,e⟩:=x;exact Heap.lt_size e
 | xd fs=>obtain ⟨_,⟨_,_,_,e,_⟩,_⟩:=x;exact Heap.lt_size e
 | rng lo hi=>obtain ⟨_,_,_,e⟩:=x;exact Heap.lt_size e
 | frz ob u=>obtain ⟨e,_⟩:=x;exact Heap.lt_size e
 | tbl ps=>exact Heap.lt_size (show h.get? a=some _ from x)
 | met f y=>exact Heap.lt_size (show h.get? a=some _ from x)
 | ext φ=>obtain ⟨_,⟨_,e⟩,_⟩:=x;exact Heap.lt_size e
theorem Paired.mapP {α β:Type} {F G:α→β→Prop} : ∀ {l₁:List α} {l₂:List β},Paired F l₁ l₂→(∀ a b,F a b→G a b)→Paired G l₁ l₂
 | _,_,.nil,_=>.nil
 | _,_,.cons r t,f=>.cons (f _ _ r) (Paired.mapP t f)
theorem ObjOk.stay (x : ObjOk P w H h a o) (k : ∀ b u, (b = a ∨ H b = some (.own a)) → h.get? b = some u → h'.get? b = some u)
    (ho : ∀ b, H b = some (.own a) → H' b = some (.own a)) (ht : ∀ b xs, H b = some (.tup xs) → H' b = some (.tup xs)) : ObjOk P w H' h' a o := by
  induction o with
  | lst xs => obtain ⟨z, its, n, r, e⟩ := x; exact ⟨z, its, n, r, k _ _ (.inl rfl) e⟩
  | tup xs => obtain ⟨z, its, r, ob, e, c⟩ := x; exact ⟨z, its, r, ob, k _ _ (.inl rfl) e, c⟩
  | dK kvs => obtain ⟨z, y, vs, r, ob, es, ep, e, c⟩ := x; exact ⟨z, y, vs, r, ob, es, ep, k _ _ (.inl rfl) e, c⟩
  | dT kvs =>
    obtain ⟨z, y, xs, r, ob, es, ep, e, c⟩ := x
    exact ⟨z, y, xs, Paired.mapP r fun p q z => ⟨z.1, ht _ _ z.2.1, z.2.2⟩, ob, es, ep, k _ _ (.inl rfl) e, c⟩
  | set S n => obtain ⟨ob, es, ep, t, e, c⟩ := x; exact ⟨ob, es, ep, t, k _ _ (.inl rfl) e, c⟩
  | ins C dx fs =>
    obtain ⟨d, z, ne, e, mA, ⟨od, es, ep, e2, c⟩, r⟩ := x
    exact ⟨ho _ d, z, ne, k _ _ (.inl rfl) e, mA, ⟨od, es, ep, k _ _ (.inr d) e2, c⟩, r⟩
  | own y => obtain ⟨ob, e⟩ := x; exact ⟨ob, k _ _ (.inl rfl) e⟩
  | xd fs => obtain ⟨mA, ⟨od, es, ep, e, c⟩, r⟩ := x; exact ⟨mA, ⟨od, es, ep, k _ _ (.inl rfl) e, c⟩, r⟩
  | rng lo hi => obtain ⟨t, u, v, e⟩ := x; exact ⟨t, u, v, k _ _ (.inl rfl) e⟩
  | frz ob u ih => obtain ⟨e, q⟩ := x; exact ⟨k _ _ (.inl rfl) e, ih q⟩
  | tbl ps =>
    have e : h.get? a = some { cls := .none, data := .fields ps } := x
    show h'.get? a = some { cls := .none, data := .fields ps }
    exact k a _ (.inl rfl) e
  | met f y =>
    have e : h.get? a = some (W.methodObj (.ref f) (.ref y)) := x
    show h'.get? a = some (W.methodObj (.ref f) (.ref y))
    exact k a _ (.inl rfl) e
  | ext φ => obtain ⟨p, ⟨o, e⟩, st⟩ := x; exact ⟨st _ _ p fun o q => k _ _ (.inl rfl) q, ⟨o, k _ _ (.inl rfl) e⟩, st⟩
theorem HOk.lt (x:HOk P w H h) (e:H a=some o):a < h.objs.size:=(x a o e).lt
theorem HOk.fresh (x:HOk P w H h) (e:h.objs.size≤a):H a=none:=by
 cases q:H a with
 | none=>rfl
 | some u=>exact absurd (Nat.lt_of_lt_of_le (x.lt q) e) (Nat.lt_irrefl _)
theorem HOk.kept (x:HOk P w H h) (k : ∀ b u,h.get? b=some u→h'.get? b=some u):HOk P w H h':=fun a o e =>
 (x a o e).stay (fun b u _ q=>k b u q) (fun _ q=>q) fun _ _ q=>q
theorem HOk.laid (x:HOk P w H h) (k : ∀ b u,h.get? b=some u→h'.get? b=some u) (hp:h.objs.size≤a) (new:ObjOk P w (upd H a o) h' a o):HOk P w (upd H a o) h':=fun b u e=>by
 have hn:=x.fresh hp
 by_cases hb:b=a
 ·subst hb;rw [upd_same] at e;cases e;exact new
 ·rw [upd_ne hb] at e
  exact (x b u e).stay (fun c v _ q=>k c v q) (fun c q=>by rw [upd_ne (ne_of_none q hn)];exact q) fun c xs q=>by rw [upd_ne (ne_of_none q hn)];exact q
end
def Rd (H:Hp) (a:Addr) (u:HO):Prop:=H a=some u ∨ ∃ o,H a=some (.frz o u)
theorem Rd.of {H:Hp} {a:Addr} {u:HO} (h:H a=some u):Rd H a u:=.inl h
theorem Rd.ok {P:Program} {w:World} {H:Hp} {h:Heap} {a:Addr} {u:HO} (r:Rd H a u) (x:HOk P w H h):ObjOk P w H h a u:=by
 rcases r with r | ⟨o,r⟩
 ·exact x a u r
 ·obtain ⟨_,q⟩:=x a _ r
  exact q
def Mut:Option HO→Prop
 | some (.lst _)=>True
 | some (.dK _)=>True
 | some (.dT _)=>True
 | some (.set _ _)=>True
 | some (.ins _ _ _)=>True
 | some (.ext _)=>True
 | _=>False
section
variable {P : Program} {w : World} {H : Hp} {h h' : Heap} {x e : Addr} {o' : HO}
theorem HOk.write (ok:HOk P w H h) (mu:Mut (H x)) (he:e=x∨H e=some (.own x)) (k : ∀ b u,b≠e→h.get? b=some u→h'.get? b=some u) (heo : ∃ u,h'.get? e=some u)
  (new:ObjOk P w (upd H x o') h' x o'):HOk P w (upd H x o') h':=fun b u q=>by
 have nown : ∀ c y,H c=some (.own y)→c≠x:=fun c y r z=>by subst z;rw [r] at mu;exact mu
 have ntup : ∀ c xs,H c=some (.tup xs)→c≠x:=fun c xs r z=>by subst z;rw [r] at mu;exact mu
 by_cases hb:b=x
 ·subst hb;rw [upd_same] at q;cases q;exact new
 ·rw [upd_ne hb] at q
  by_cases hbe:b=e
  ·have q':H b=some (.own x):=by
    rcases he with z | z
    ·exact absurd (hbe.trans z) hb
    ·rw [hbe];exact z
   rw [q] at q';cases q'
   obtain ⟨v,hv⟩:=heo
   exact ⟨v,by rw [hbe];exact hv⟩
  ·refine (ok b u q).stay (fun c v hc r=>k c v ?_ r) (fun c r=>by rw [upd_ne (nown c b r)];exact r) fun c xs r=>by rw [upd_ne (ntup c xs r)];exact r
   rcases hc with rfl | hc
   ·exact hbe
   ·rintro rfl
    rcases he with z | z
    ·exact nown c b hc z
    ·rw [hc] at z;cases z;exact hb rfl
end
structure Un (fs ex:List Addr) (H H':Hp) (h h':Heap):Prop where
 keep : ∀ b o,h.get? b=some o→H b=none→b ∉ fs→b ∉ ex→h'.get? b=some o
 slot : ∀ b o,h.get? b=some o→H b=none→b ∈ fs→b ∉ ex → ∃ sl,h'.get? b=some { o with slots:=sl }
 free : ∀ b o,h.get? b=some o→H b=none→b ∉ ex→H' b=none
 there : ∀ b o,h.get? b=some o→b ∉ ex → ∃ o',h'.get? b=some o'
 tups : ∀ b xs,H b=some (.tup xs)→H' b=some (.tup xs)
 frzs : ∀ b o u,H b=some (.frz o u)→H' b=some (.frz o u)
 tbls : ∀ b ps,H b=some (.tbl ps) → ∃ more,H' b=some (.tbl (ps++more))
section
variable {fs fs' ex ex' : List Addr} {H H1 H2 : Hp} {h h1 h2 h' : Heap} {a x e : Addr} {o : HO}
theorem Un.any (u:Un fs ex H H1 h h1) {b:Addr} {ob:Obj} (q:h.get? b=some ob) (n:H b=none) (hx:b ∉ ex) : ∃ sl,h1.get? b=some { ob with slots:=sl }:=by
 by_cases hb:b ∈ fs
 ·exact u.slot b ob q n hb hx
 ·exact ⟨ob.slots,u.keep b ob q n hb hx⟩
theorem Un.trans (a:Un fs ex H H1 h h1) (b:Un fs ex H1 H2 h1 h2):Un fs ex H H2 h h2 where
 keep:=fun c ob q n hc hx=>b.keep c ob (a.keep c ob q n hc hx) (a.free c ob q n hx) hc hx
 slot:=fun c ob q n hc hx=>by
  obtain ⟨sl,e1⟩:=a.slot c ob q n hc hx
  obtain ⟨sl',e2⟩:=b.slot c _ e1 (a.free c ob q n hx) hc hx
  exact ⟨sl',e2⟩
 free:=fun c ob q n hx=>by
  obtain ⟨o',e1⟩:=a.there c ob q hx
  exact b.free c o' e1 (a.free c ob q n hx) hx
 there:=fun c ob q hx=>by
  obtain ⟨o',e1⟩:=a.there c ob q hx
  exact b.there c o' e1 hx
 tups:=fun c xs q=>b.tups c xs (a.tups c xs q)
 frzs:=fun c ob xs q=>b.frzs c ob xs (a.frzs c ob xs q)
 tbls:=fun c ps q=>by
  obtain ⟨m1,e1⟩:=a.tbls c ps q
  obtain ⟨m2,e2⟩:=b.tbls c _ e1
  exact ⟨m1++m2,by rw [e2,Array.append_assoc]⟩
theorem Un.kept (k : ∀ b u,h.get? b=some u→h'.get? b=some u):Un fs ex H H h h':=
 ⟨fun b ob q _ _ _=>k b ob q,fun b ob q _ _ _=>⟨ob.slots,k b ob q⟩,fun _ _ _ n _=>n,fun b ob q _=>⟨ob,k b ob q⟩,fun _ _ q=>q,fun _ _ _ q=>q,fun _ ps q=>⟨#[],by rw [q];simp⟩⟩
theorem Un.refl:Un fs ex H H h h:=Un.kept fun _ _ q=>q
theorem Un.laid (k : ∀ b u,h.get? b=some u→h'.get? b=some u) (hp:h.objs.size≤a) (hn:H a=none):Un fs ex H (upd H a o) h h' where
 keep:=fun b u q _ _ _=>k b u q
 slot:=fun b u q _ _ _=>⟨u.slots,k b u q⟩
 free:=fun b u q n _=>by rw [upd_ne (Nat.ne_of_lt (Nat.lt_of_lt_of_le (Heap.lt_size q) hp))];exact n
 there:=fun b u q _=>⟨u,k b u q⟩
 tups:=fun b xs q=>by rw [upd_ne (ne_of_none q hn)];exact q
 frzs:=fun b u xs q=>by rw [upd_ne (ne_of_none q hn)];exact q
 tbls:=fun b ps q=>⟨#[],by rw [upd_ne (ne_of_none q hn),q];simp⟩
theorem Un.write (mu:Mut (H x)) (he:e=x∨H e=some (.own x)) (k : ∀ b u,b≠e→h.get? b=some u→h'.get? b=some u) (heo : ∃ u,h'.get? e=some u):Un fs ex H (upd H x o) h h':=by
 have hx : ∀ b,H b=none→b≠x:=fun b n z=>by subst z;rw [n] at mu;exact mu
 have hb : ∀ b,H b=none→b≠e:=fun b n z=>by
  subst z
  rcases he with r | r
  ·exact hx b n r
  ·rw [n] at r;cases r
 have hm : ∀ b u,H b=some u → ¬ Mut (some u)→b≠x:=fun b u q nm z=>by subst z;rw [q] at mu;exact nm mu
 refine ⟨fun b u q n _ _=>k b u (hb b n) q,fun b u q n _ _=>⟨u.slots,k b u (hb b n) q⟩,fun b u q n _=>by rw [upd_ne (hx b n)];exact n,fun b u q _=>?_,
  fun b xs q=>by rw [upd_ne (hm b _ q fun z=>z)];exact q,fun b u xs q=>by rw [upd_ne (hm b _ q fun z=>z)];exact q,fun b ps q=>⟨#[],by rw [upd_ne (hm b _ q fun z=>z),q];simp⟩⟩
 by_cases hbe:b=e
 ·subst hbe;exact heo
 ·exact ⟨u,k b u hbe q⟩
theorem Un.mono (u:Un fs ex H H1 h h1) (hs : ∀ b ∈ fs,b ∈ fs') (hx : ∀ b ∈ ex,b ∈ ex'):Un fs' ex' H H1 h h1:=
 ⟨fun b ob q n hb he=>u.keep b ob q n (fun z=>hb (hs b z)) fun z=>he (hx b z),fun _ _ q n _ he=>u.any q n fun z=>he (hx _ z),fun b ob q n he=>u.free b ob q n fun z=>he (hx b z),fun b ob q he=>u.there b ob q fun z=>he (hx b z),u.tups,u.frzs,u.tbls⟩
end
def trk (h:Heap) (H:Hp):List Addr:=(List.range h.objs.size).filter fun a=>(H a).isSome
def hidT (h:Heap) (H:Hp):Heap:=W.hideAll h (trk h H)
theorem hidT_size (h:Heap) (H:Hp):(hidT h H).objs.size=h.objs.size:=W.hideAll_size _ _
theorem hidT_get {h:Heap} {H:Hp} {b:Addr} {o:Obj} (e:h.get? b=some o) (n:H b=none):(hidT h H).get? b=some o:=
 W.hideAll_get _ e fun hm=>by
  have q:(H b).isSome=true:=(List.mem_filter.mp hm).2
  rw [n] at q;simp at q
theorem of_hidT {h : Heap} {H : Hp} {b : Addr} {o : Obj} (e : (hidT h H).get? b = some o) : h.get? b = some o ∧ H b = none := by
  have e' : h.get? b = some o := W.of_hideAll (trk h H) e
  refine ⟨e', ?_⟩
  cases q : H b with
  | none => rfl
  | some x =>
    have hm : b ∈ trk h H := List.mem_filter.mpr ⟨List.mem_range.mpr (Heap.lt_size e'), by simp [q]⟩
    have z : (hidT h H).get? b = none := W.hideAll_none (trk h H) hm
    rw [z] at e; cases e
def allNews (g h:Heap) (L:Addr):List (Addr × Obj):=(List.range h.objs.size).filterMap fun a=>if a=L∨(g.get? a).isSome=true then none else (h.get? a).map fun o=>(a,o)
def rest (g h:Heap) (L d:Addr):List (Addr × Obj):=(allNews g h L).filter fun p=>decide (p.1≠d)
structure Mod (K:W.Frag) (mg:Str→Option Value) (base:Heap):Prop where
 kin:K.In base
 glob:base.Ns mainGlobals mg
 blt : ∃ mb,base.Ns builtinsNs mb ∧ ∀ x:Str,x ≠ "__name__" → mb x=bootBuiltins x
 nolimit:base.NoLimit
structure Cx where
 prog:Program
 w:World
 K:W.Frag
 mg:Str→Option Value
 base:Heap
 A:Around
 N:List Str
 s₀:Shared
 H₀:Hp
 env:Env
 outer:List Env
 stack:List Env
 ex:List Addr
 fn:Str→Bool
 calm:Bool
 pn:List (Addr × Obj)
 xe:Value→Shared→Prop
def frs (l:List Env):List Addr:=l.filterMap (·.frame)
abbrev Cx.fs (X:Cx):List Addr:=frs X.outer
def Vis (sc:Scope) (x:Str):Prop:=sc.names.lookup x=some .local∨sc.names.lookup x=some .cell∨sc.names.lookup x=some .free
def Loc (sc:Scope) (x:Str):Prop:=sc.names.lookup x=some .local∨sc.names.lookup x=some .cell
def Look (env:Env) (h:Heap) (m:Str→Option Value) (x:Str) (u:Value):Prop:=
 (env.kindOf x=some .local∧m x=some u)∨((env.kindOf x=some .cell∨env.kindOf x=some .free) ∧ ∃ c,env.cells.lookup x=some c∧h.IsCell c (some u))
structure Cx.Ok (X:Cx):Prop where
 mod:Mod X.K X.mg X.base
 kind:X.env.scope.kind = .function
 glob:X.env.globals=mainGlobals
 blt:X.env.builtins=builtinsNs
 above:X.s₀.heap.objs.size≤X.env.locals
 inj : ∀ x y c,X.env.cells.lookup x=some c→X.env.cells.lookup y=some c→x=y
 has : ∀ x,(X.env.kindOf x=some .cell∨X.env.kindOf x=some .free) → ∃ c,X.env.cells.lookup x=some c
 cab : ∀ x c,X.fn x=true→X.env.cells.lookup x=some c→X.s₀.heap.objs.size≤c
 hd:X.calm=true→X.A.handled=none
 frames:X.A.frames=some X.stack
 stk:X.stack=X.outer∨(X.stack=X.env::X.outer∧X.env.frame=some X.env.locals)
 exf : ∀ b ∈ X.ex,b≠X.env.locals ∧ ∀ x c,X.env.cells.lookup x=some c→c≠b
 bs : ∀ b o,X.base.get? b=some o→X.s₀.heap.get? b=some o∧X.H₀ b=none
 bsz:X.base.objs.size≤X.s₀.heap.objs.size
 noex : ∀ b o,X.base.get? b=some o→b ∉ X.ex
 exfs : ∀ b ∈ X.ex,b ∉ X.fs
 funs:X.s₀.heap.FunFrames X.base X.outer
 frf : ∀ b ∈ X.fs,X.H₀ b=none
structure Inv (X:Cx) (pins:List (Addr × Obj)) (σ:List (Option V)) (H:Hp) (s:Shared):Prop where
 ok:X.Ok
 os:s.os=X.s₀.os
 bare:AllBare s.gens
 base:Un X.fs X.ex X.H₀ H X.s₀.heap s.heap
 loc : ∃ m,s.heap.Ns X.env.locals m ∧ ∀ (i:Nat) (x:Str) (v:V),X.N[i]? = some x→σ[i]? = some (some v)→Vis X.env.scope x → ∃ u,RelV v u∧Look X.env s.heap m x u
 cell : ∀ x c,X.env.cells.lookup x=some c → ∃ v,s.heap.IsCell c v
 free:H X.env.locals=none
 freeC : ∀ x c,X.env.cells.lookup x=some c→H c=none
 pin : ∀ p ∈ X.pn++pins,s.heap.get? p.1=some p.2∧H p.1=none∧p.1≠X.env.locals∧p.1 ∉ X.fs ∧ ∀ v,p.2.data ≠ .cell v
 hok:HOk X.prog X.w H s.heap
 len:σ.length=X.N.length
section
variable {X : Cx} {pins : List (Addr × Obj)} {σ : List (Option V)} {H H' : Hp} {s : Shared} {h' : Heap}
theorem Cx.Ok.nofr (ok:X.Ok) {b:Addr} {o:Obj} (e:X.base.get? b=some o):b ∉ X.fs:=fun hb=>by
 have:=(ok.funs.mem hb).1
 rw [e] at this;cases this
theorem Inv.bs (I:Inv X pins σ H s) : ∀ b o,X.base.get? b=some o→s.heap.get? b=some o∧H b=none:=fun b o e =>
 ⟨I.base.keep b o (I.ok.bs b o e).1 (I.ok.bs b o e).2 (I.ok.nofr e) (I.ok.noex b o e),I.base.free b o (I.ok.bs b o e).1 (I.ok.bs b o e).2 (I.ok.noex b o e)⟩
theorem Inv.bk (I:Inv X pins σ H s) : ∀ b o,X.base.get? b=some o→s.heap.get? b=some o:=fun b o e=>(I.bs b o e).1
theorem Inv.mod (I:Inv X pins σ H s):Mod X.K X.mg X.base:=I.ok.mod
theorem Inv.kIn (I:Inv X pins σ H s):X.K.In s.heap:=I.ok.mod.kin.keeps I.bk
theorem Inv.nolimit (I:Inv X pins σ H s):s.heap.NoLimit:=I.ok.mod.nolimit.keeps I.bk
theorem Inv.lt (I:Inv X pins σ H s):X.env.locals < s.heap.objs.size:=let ⟨_,hn,_⟩:=I.loc;hn.lt
theorem Inv.sz (I:Inv X pins σ H s):X.s₀.heap.objs.size≤s.heap.objs.size:=Nat.le_trans I.ok.above (Nat.le_of_lt I.lt)
theorem Inv.nofs (I:Inv X pins σ H s) {a:Addr} (h:s.heap.objs.size≤a):a ∉ X.fs:=fun hb=>by
 obtain ⟨_,o,ho,_⟩:=I.ok.funs.mem hb
 exact absurd (Nat.lt_of_lt_of_le (Heap.lt_size ho) (Nat.le_trans I.sz h)) (Nat.lt_irrefl _)
theorem Inv.cne (I:Inv X pins σ H s) : ∀ x c,X.env.cells.lookup x=some c→c≠X.env.locals:=fun x c e z=>by
 obtain ⟨v,o,ho,hd⟩:=I.cell x c e
 obtain ⟨m,⟨o',es,ep,ho',hd',_⟩,_⟩:=I.loc
 rw [z,ho'] at ho;cases ho;rw [hd'] at hd;cases hd
theorem Inv.funs (I : Inv X pins σ H s) : s.heap.FunFrames X.base X.outer := by
  have all : ∀ (l : List Env), (∀ b ∈ frs l, b ∈ X.fs) → X.s₀.heap.FunFrames X.base l → s.heap.FunFrames X.base l := by
    intro l
    induction l with
    | nil => intro _ _; trivial
    | cons env r ih =>
      intro hs hl
      obtain ⟨hk, ⟨L, o, hf, hn, ho, hd⟩, hr⟩ := hl
      have hL : L ∈ X.fs := hs L (by unfold frs; rw [List.filterMap_cons, hf]; exact List.mem_cons_self)
      obtain ⟨sl, e⟩ := I.base.slot L o ho (I.ok.frf L hL) hL fun z => I.ok.exfs L z hL
      exact ⟨hk, ⟨L, _, hf, hn, e, hd⟩, ih (fun b hb => hs b (by unfold frs; rw [List.filterMap_cons, hf]; exact List.mem_cons_of_mem _ hb)) hr⟩
  exact all X.outer (fun _ hb => hb) I.ok.funs
theorem Inv.stack (I:Inv X pins σ H s):s.heap.FunFrames X.base X.stack:=by
 rcases I.ok.stk with e | ⟨e,hf⟩
 ·rw [e];exact I.funs
 ·rw [e]
  obtain ⟨m,hn,_⟩:=I.loc
  refine .cons (by rw [I.ok.kind];decide) hf hn ?_ I.funs
  exact Heap.get?_none_of_le (Nat.le_trans I.ok.bsz I.ok.above)
theorem Inv.stkSub (I:Inv X pins σ H s) : ∀ b ∈ frs X.stack,b ∈ X.env.locals::X.fs:=fun b hb=>by
 rcases I.ok.stk with e | ⟨e,hf⟩
 ·rw [e] at hb;exact List.mem_cons_of_mem _ hb
 ·rw [e] at hb
  unfold frs at hb
  rw [List.filterMap_cons,hf] at hb
  exact hb
theorem Inv.stkFree (I:Inv X pins σ H s) : ∀ b ∈ frs X.stack,H b=none:=fun b hb=>by
 rcases List.mem_cons.mp (I.stkSub b hb) with e | hb
 ·rw [e];exact I.free
 ·obtain ⟨_,o,ho,_⟩:=I.ok.funs.mem hb
  exact I.base.free b o ho (I.ok.frf b hb) fun z=>I.ok.exfs b z hb
theorem Inv.step {g':Array GenState} {t':Nat} {d':Drawn} {ch:List Addr} (I:Inv X pins σ H s)
  (hch : ∀ b ∈ ch,(b ∈ X.ex∨X.s₀.heap.objs.size≤b)∧b≠X.env.locals∧(∀ x c,X.env.cells.lookup x=some c→c≠b) ∧ ∀ p ∈ X.pn++pins,p.1≠b)
  (keep : ∀ b o,b≠X.env.locals→b ∉ X.fs→b ∉ ch→s.heap.get? b=some o→H b=none→h'.get? b=some o)
  (slot : ∀ b o,b≠X.env.locals→b ∈ X.fs→b ∉ ch→s.heap.get? b=some o→H b=none → ∃ sl,h'.get? b=some { o with slots:=sl }) (free : ∀ b o,b ∉ ch→s.heap.get? b=some o→H b=none→H' b=none)
  (there : ∀ b o,b ∉ ch→s.heap.get? b=some o → ∃ o',h'.get? b=some o')
  (tups : ∀ b xs,H b=some (.tup xs)→H' b=some (.tup xs)) (frzs : ∀ b o u,H b=some (.frz o u)→H' b=some (.frz o u)) (tbls : ∀ b ps,H b=some (.tbl ps) → ∃ more,H' b=some (.tbl (ps++more)))
  (ns : ∀ m,s.heap.Ns X.env.locals m→h'.Ns X.env.locals m) (hok:HOk X.prog X.w H' h') (hg:AllBare g') :
  Inv X pins σ H' { s with heap:=h',gens:=g',drawn:=d',toks:=t' }:=by
 have neL : ∀ b o,X.s₀.heap.get? b=some o→b≠X.env.locals:=fun b o e=>Nat.ne_of_lt (Nat.lt_of_lt_of_le (Heap.lt_size e) I.ok.above)
 have neC : ∀ b o,X.s₀.heap.get? b=some o→b ∉ X.ex→b ∉ ch:=fun b o e hx hb=>by
  rcases (hch b hb).1 with z | z
  ·exact hx z
  ·exact absurd (Nat.lt_of_lt_of_le (Heap.lt_size e) z) (Nat.lt_irrefl _)
 have cellK : ∀ x c,X.env.cells.lookup x=some c → ∀ v,s.heap.IsCell c v→h'.IsCell c v:=fun x c e v ⟨o,ho,hd⟩=>by
  have nch:c ∉ ch:=fun z=>(hch c z).2.2.1 x c e rfl
  by_cases hc:c ∈ X.fs
  ·obtain ⟨sl,q⟩:=slot c o (I.cne x c e) hc nch ho (I.freeC x c e)
   exact ⟨_,q,hd⟩
  ·exact ⟨o,keep c o (I.cne x c e) hc nch ho (I.freeC x c e),hd⟩
 refine ⟨I.ok,I.os,hg,⟨fun b o e n hb hx=>?_,fun b o e n hb hx=>?_,fun b o e n hx=>?_,fun b o e hx=>?_,fun b xs e=>tups b xs (I.base.tups b xs e),fun b o xs e=>frzs b o xs (I.base.frzs b o xs e),fun b ps e=>?_⟩,?_,fun x c e=>?_,?_,fun x c e=>?_,fun p hp=>?_,hok,I.len⟩
 ·exact keep b o (neL b o e) hb (neC b o e hx) (I.base.keep b o e n hb hx) (I.base.free b o e n hx)
 ·obtain ⟨sl,e1⟩:=I.base.slot b o e n hb hx
  obtain ⟨sl',e2⟩:=slot b _ (neL b o e) hb (neC b o e hx) e1 (I.base.free b o e n hx)
  exact ⟨sl',e2⟩
 ·obtain ⟨o',e1⟩:=I.base.there b o e hx
  exact free b o' (neC b o e hx) e1 (I.base.free b o e n hx)
 ·obtain ⟨o',e1⟩:=I.base.there b o e hx
  exact there b o' (neC b o e hx) e1
 ·obtain ⟨m1,e1⟩:=I.base.tbls b ps e
  obtain ⟨m2,e2⟩:=tbls b _ e1
  exact ⟨m1++m2,by rw [e2,Array.append_assoc]⟩
 ·obtain ⟨m,hn,hl⟩:=I.loc
  refine ⟨m,ns m hn,fun i x v e1 e2 e3=>?_⟩
  obtain ⟨u,r,l⟩:=hl i x v e1 e2 e3
  refine ⟨u,r,?_⟩
  rcases l with l | ⟨k,c,e,z⟩
  ·exact .inl l
  ·exact .inr ⟨k,c,e,cellK x c e _ z⟩
 ·obtain ⟨v,z⟩:=I.cell x c e
  exact ⟨v,cellK x c e v z⟩
 ·obtain ⟨m,⟨o,_,_,ho,_⟩,_⟩:=I.loc
  exact free _ o (fun z=>(hch _ z).2.1 rfl) ho I.free
 ·obtain ⟨v,o,ho,hd⟩:=I.cell x c e
  exact free c o (fun z=>(hch c z).2.2.1 x c e rfl) ho (I.freeC x c e)
 ·obtain ⟨e,n,ne,nf,d⟩:=I.pin p hp
  have nch:p.1 ∉ ch:=fun z=>(hch p.1 z).2.2.2 p hp rfl
  exact ⟨keep p.1 p.2 ne nf nch e n,free p.1 p.2 nch e n,ne,nf,d⟩
theorem Inv.un {t':Nat} (I:Inv X pins σ H s) (u:Un X.fs [] H H' s.heap h') (hok:HOk X.prog X.w H' h'):Inv X pins σ H' { s with heap:=h',toks:=t' }:=by
 obtain ⟨m,⟨o,es,ep,ho,r⟩,_⟩:=id I.loc
 obtain ⟨sl,hL⟩:=u.any ho I.free (by simp)
 exact I.step (g':=s.gens) (d':=s.drawn) (ch:=[]) (fun _ z=>nomatch z) (fun b o _ hb _ e n=>u.keep b o e n hb (by simp)) (fun b o _ hb _ e n=>u.slot b o e n hb (by simp)) (fun b o _ e n=>u.free b o e n (by simp)) (fun b o _ e=>u.there b o e (by simp)) u.tups u.frzs u.tbls (fun m' hm=>by
  obtain ⟨o',es',ep',ho',r'⟩:=hm
  rw [ho] at ho';cases ho'
  exact ⟨_,es',ep',hL,r'⟩) hok I.bare
theorem Inv.call {g':Array GenState} {t':Nat} {d':Drawn} {ch:List Addr} (I:Inv X pins σ H s) (u:Un (frs X.stack) ch H H' s.heap h') (hok:HOk X.prog X.w H' h') (hg:AllBare g')
  (hch : ∀ b ∈ ch,(b ∈ X.ex∨X.s₀.heap.objs.size≤b)∧b≠X.env.locals∧(∀ x c,X.env.cells.lookup x=some c→c≠b) ∧ ∀ p ∈ X.pn++pins,p.1≠b) :
  Inv X pins σ H' { s with heap:=h',gens:=g',drawn:=d',toks:=t' }:=by
 obtain ⟨m,⟨o,es,ep,ho,r⟩,_⟩:=id I.loc
 obtain ⟨sl,hL⟩:=u.any ho I.free fun z=>(hch _ z).2.1 rfl
 exact I.step (ch:=ch) hch (fun b o hL hb hc e n=>u.keep b o e n (fun z=>(List.mem_cons.mp (I.stkSub b z)).elim hL hb) hc) (fun b o _ _ hc e n=>u.any e n hc) (fun b o hc e n=>u.free b o e n hc) (fun b o hc e=>u.there b o e hc) u.tups u.frzs u.tbls (fun m' hm=>by
  obtain ⟨o',es',ep',ho',r'⟩:=hm
  rw [ho] at ho';cases ho'
  exact ⟨_,es',ep',hL,r'⟩) hok hg
theorem Inv.turned {t':Nat} {it:Addr} (I:Inv X pins σ H s) (k : ∀ b o,b≠it→s.heap.get? b=some o→h'.get? b=some o) (hn:H it=none) (hL:it≠X.env.locals)
  (h1:it ∈ X.ex∨X.s₀.heap.objs.size≤it) (h2 : ∀ x c,X.env.cells.lookup x=some c→c≠it) (h3 : ∀ p ∈ X.pn++pins,p.1≠it):Inv X pins σ H { s with heap:=h',toks:=t' }:=by
 have nit : ∀ b u,H b=some u→b≠it:=fun b u e z=>by rw [z,hn] at e;cases e
 refine I.step (g':=s.gens) (d':=s.drawn) (ch:=[it]) (fun b hb=>?_) (fun b o _ _ hc e _=>k b o (fun z=>hc (by simp [z])) e) (fun b o _ _ hc e _=>⟨o.slots,k b o (fun z=>hc (by simp [z])) e⟩) (fun _ _ _ _ n=>n)
  (fun b o hc e=>⟨o,k b o (fun z=>hc (by simp [z])) e⟩) (fun _ _ e=>e) (fun _ _ _ e=>e) (fun b ps e=>⟨#[],by rw [e];simp⟩) (fun m hm=>?_) (fun b u e=>?_) I.bare
 ·have e:b=it:=by simpa using hb
  subst e
  exact ⟨h1,hL,h2,h3⟩
 ·obtain ⟨o,es,ep,ho,r⟩:=hm
  exact ⟨o,es,ep,k _ o (Ne.symm hL) ho,r⟩
 ·refine (I.hok b u e).stay (fun c v hc q=>k c v ?_ q) (fun _ q=>q) fun _ _ q=>q
  rcases hc with z | z
  ·rw [z];exact nit b u e
  ·exact nit c _ z
theorem Inv.tok (I:Inv X pins σ H s) (t:Nat):Inv X pins σ H { s with toks:=t }:=I.un (h':=s.heap) (t':=t) Un.refl I.hok
theorem Inv.kept {t':Nat} (I:Inv X pins σ H s) (k : ∀ b u,s.heap.get? b=some u→h'.get? b=some u):Inv X pins σ H { s with heap:=h',toks:=t' }:=I.un (Un.kept k) (I.hok.kept k)
theorem Inv.laid {a:Addr} {o:HO} {t':Nat} (I:Inv X pins σ H s) (k : ∀ b u,s.heap.get? b=some u→h'.get? b=some u) (hp:s.heap.objs.size≤a) (new:ObjOk X.prog X.w (upd H a o) h' a o) :
  Inv X pins σ (upd H a o) { s with heap:=h',toks:=t' }:=I.un (Un.laid k hp (I.hok.fresh hp)) (I.hok.laid k hp new)
theorem Inv.write {x e:Addr} {o:HO} {t':Nat} (I:Inv X pins σ H s) (mu:Mut (H x)) (he:e=x∨H e=some (.own x)) (k : ∀ b u,b≠e→s.heap.get? b=some u→h'.get? b=some u) (heo : ∃ u,h'.get? e=some u)
  (new:ObjOk X.prog X.w (upd H x o) h' x o):Inv X pins σ (upd H x o) { s with heap:=h',toks:=t' }:=I.un (Un.write mu he k heo) (I.hok.write mu he k heo new)
theorem Inv.pins_of {pins':List (Addr × Obj)} (I:Inv X pins σ H s) (h : ∀ p ∈ pins',s.heap.get? p.1=some p.2∧H p.1=none∧p.1≠X.env.locals∧p.1 ∉ X.fs ∧ ∀ v,p.2.data ≠ .cell v):Inv X pins' σ H s:=
 ⟨I.ok,I.os,I.bare,I.base,I.loc,I.cell,I.free,I.freeC,fun p hp=>(List.mem_append.mp hp).elim (fun z=>I.pin p (List.mem_append_left _ z)) (h p),I.hok,I.len⟩
theorem nodup_ix {N:List Str} (hN:N.Nodup) {i j:Nat} {x:Str} (a:N[i]? = some x) (b:N[j]? = some x):i=j:=by
 obtain ⟨h1,e1⟩:=List.getElem?_eq_some_iff.mp a
 obtain ⟨h2,e2⟩:=List.getElem?_eq_some_iff.mp b
 exact (List.getElem_inj hN).mp (e1.trans e2.symm)
theorem store_ok2 {M:Model} {A:Around} {E:Value→Shared→Prop} {i:Nat} {x:Str} {v:V} {u:Value} {Q:Unit→Shared→Prop} (I:Inv X pins σ H s) (hN:X.N.Nodup) (hi:X.N[i]? = some x) (hx:Loc X.env.scope x) (r:RelV v u)
  (h : ∀ s',Inv X pins (σ.set i (some v)) H s'→(∃ a,Heap.SameBut a s.heap s'.heap∧(a=X.env.locals∨X.env.cells.lookup x=some a))→Q () s') (hf:X.fn x=true∨X.env.scope.names.lookup x=some .local:=by first | exact .inl rfl | exact .inr rfl | assumption):wpAny M A (storeName X.env x u) Q E s:=by
 obtain ⟨m,hn,hl⟩:=id I.loc
 have hcls:(X.env.scope.kind == .class || (X.env.scope.kind == .module && X.env.locals != X.env.globals))=false:=by rw [I.ok.kind];rfl
 have hiσ:i < σ.length:=by rw [I.len];exact (List.getElem?_eq_some_iff.mp hi).1
 have cne:=I.cne
 have tracked : ∀ {a:Addr} {h':Heap},(∃ o,s.heap.get? a=some o∧H a=none)→Heap.SameBut a s.heap h'→HOk X.prog X.w H h':=fun {a h'} ha hs b ob e=>by
  obtain ⟨_,_,hfree⟩:=ha
  refine (I.hok b ob e).stay (fun c w' hc q=>(hs.2 c ?_).trans q) (fun _ q=>q) fun _ _ q=>q
  rintro rfl
  rcases hc with rfl | hc
  ·rw [hfree] at e;cases e
  ·rw [hfree] at hc;cases hc
 rcases hx with hk | hk
 ·refine wpAny_storeName_local hk hn (fun h' hn' hs=>?_) hcls
  obtain ⟨oL,_,_,hoL,_⟩:=id hn
  refine h _ ⟨I.ok,I.os,I.bare,⟨fun b o e n hb hx=>?_,fun b o e n hb hx=>?_,I.base.free,fun b o e hx=>?_,I.base.tups,I.base.frzs,I.base.tbls⟩,⟨_,hn',fun j y v' e1 e2 e3=>?_⟩,fun y c e=>?_,I.free,I.freeC,fun p hp=>?_,tracked ⟨oL,hoL,I.free⟩ hs,by simpa using I.len⟩ ⟨_,hs,.inl rfl⟩
  ·exact (hs.2 b (Nat.ne_of_lt (Nat.lt_of_lt_of_le (Heap.lt_size e) I.ok.above))).trans (I.base.keep b o e n hb hx)
  ·obtain ⟨sl,e1⟩:=I.base.slot b o e n hb hx
   exact ⟨sl,(hs.2 b (Nat.ne_of_lt (Nat.lt_of_lt_of_le (Heap.lt_size e) I.ok.above))).trans e1⟩
  ·obtain ⟨o',e1⟩:=I.base.there b o e hx
   exact ⟨o',(hs.2 b (Nat.ne_of_lt (Nat.lt_of_lt_of_le (Heap.lt_size e) I.ok.above))).trans e1⟩
  ·by_cases hj:j=i
   ·subst hj
    rw [hi] at e1;cases e1
    rw [List.getElem?_set_self hiσ] at e2
    cases e2
    exact ⟨u,r,.inl ⟨hk,by simp⟩⟩
   ·rw [List.getElem?_set_ne (Ne.symm hj)] at e2
    obtain ⟨u',r',q⟩:=hl j y v' e1 e2 e3
    refine ⟨u',r',?_⟩
    rcases q with ⟨k,e⟩ | ⟨k,c,e,z⟩
    ·refine .inl ⟨k,?_⟩
     have:y≠x:=fun e=>hj (nodup_ix hN e1 (e ▸ hi))
     simp [this,e]
    ·exact .inr ⟨k,c,e,z.sameBut hs (cne y c e)⟩
  ·obtain ⟨w',z⟩:=I.cell y c e
   exact ⟨w',z.sameBut hs (cne y c e)⟩
  ·obtain ⟨e,n,ne,nf,d⟩:=I.pin p hp
   exact ⟨(hs.2 p.1 ne).trans e,n,ne,nf,d⟩
 ·have hfn:X.fn x=true:=by
   rcases hf with z | z
   ·exact z
   ·rw [z] at hk;cases hk
  obtain ⟨c,hc⟩:=I.ok.has x (.inl hk)
  obtain ⟨w',z⟩:=I.cell x c hc
  refine wpAny_storeName_cell I.ok.kind hk hc z (fun h' hc' hs=>?_)
  obtain ⟨oc,hoc,hocd⟩:=id z
  refine h { s with heap:=h' } ⟨I.ok,I.os,I.bare,⟨fun b o e n hb hx=>?_,fun b o e n hb hx=>?_,I.base.free,fun b o e hx=>?_,I.base.tups,I.base.frzs,I.base.tbls⟩,⟨m,hn.sameBut hs (Ne.symm (cne x c hc)),fun j y v' e1 e2 e3=>?_⟩,fun y c' e=>?_,I.free,I.freeC,fun p hp=>?_,tracked ⟨oc,hoc,I.freeC x c hc⟩ hs,by simpa using I.len⟩ ⟨c,hs,.inr hc⟩
  ·exact (hs.2 b (Nat.ne_of_lt (Nat.lt_of_lt_of_le (Heap.lt_size e) (I.ok.cab x c hfn hc)))).trans (I.base.keep b o e n hb hx)
  ·obtain ⟨sl,e1⟩:=I.base.slot b o e n hb hx
   exact ⟨sl,(hs.2 b (Nat.ne_of_lt (Nat.lt_of_lt_of_le (Heap.lt_size e) (I.ok.cab x c hfn hc)))).trans e1⟩
  ·obtain ⟨o',e1⟩:=I.base.there b o e hx
   exact ⟨o',(hs.2 b (Nat.ne_of_lt (Nat.lt_of_lt_of_le (Heap.lt_size e) (I.ok.cab x c hfn hc)))).trans e1⟩
  ·by_cases hj:j=i
   ·subst hj
    rw [hi] at e1;cases e1
    rw [List.getElem?_set_self hiσ] at e2
    cases e2
    exact ⟨u,r,.inr ⟨.inl hk,c,hc,hc'⟩⟩
   ·rw [List.getElem?_set_ne (Ne.symm hj)] at e2
    obtain ⟨u',r',q⟩:=hl j y v' e1 e2 e3
    refine ⟨u',r',?_⟩
    rcases q with q | ⟨k,c',e,z'⟩
    ·exact .inl q
    ·refine .inr ⟨k,c',e,z'.sameBut hs ?_⟩
     rintro rfl
     exact hj (nodup_ix hN e1 (I.ok.inj _ _ _ e hc ▸ hi))
  ·by_cases hcc:c'=c
   ·subst hcc;exact ⟨_,hc'⟩
   ·obtain ⟨w2,z2⟩:=I.cell y c' e
    exact ⟨w2,z2.sameBut hs hcc⟩
  ·obtain ⟨e,n,ne,nf,d⟩:=I.pin p hp
   refine ⟨(hs.2 p.1 ?_).trans e,n,ne,nf,d⟩
   intro q
   rw [q,hoc] at e
   have q':oc=p.2:=Option.some.inj e
   exact d w' (by rw [← q'];exact hocd)
theorem store_ok {M:Model} {A:Around} {E:Value→Shared→Prop} {i:Nat} {x:Str} {v:V} {u:Value} {Q:Unit→Shared→Prop} (I:Inv X pins σ H s) (hN:X.N.Nodup) (hi:X.N[i]? = some x) (hx:Loc X.env.scope x) (r:RelV v u)
  (h : ∀ s',Inv X pins (σ.set i (some v)) H s'→Q () s') (hf:X.fn x=true∨X.env.scope.names.lookup x=some .local:=by first | exact .inl rfl | exact .inr rfl | assumption):wpAny M A (storeName X.env x u) Q E s:=
 store_ok2 I hN hi hx r (fun s' I' _=>h s' I') hf
theorem Inv.call' {s':Shared} {ch:List Addr} (I:Inv X pins σ H s) (ho:s'.os=s.os) (u:Un (frs X.stack) ch H H' s.heap s'.heap) (hok:HOk X.prog X.w H' s'.heap) (hg:AllBare s'.gens)
  (hch : ∀ b ∈ ch,(b ∈ X.ex∨X.s₀.heap.objs.size≤b)∧b≠X.env.locals∧(∀ x c,X.env.cells.lookup x=some c→c≠b) ∧ ∀ p ∈ X.pn++pins,p.1≠b):Inv X pins σ H' s':=by
 obtain ⟨h',g',d',t',o'⟩:=s'
 have e:o'=s.os:=ho
 subst e
 exact I.call (g':=g') (t':=t') (d':=d') u hok hg hch
end
abbrev XK:=Value→Option Addr→Hp→Prop
abbrev St:=List (Option V)
abbrev VK:=V→Hp→Prop
abbrev TE:=St→Hp→VK→Prop
abbrev TT:=St→Hp→(Bool→Hp→Prop)→Prop
abbrev TA:=St→Hp→(List V→Hp→Prop)→Prop
structure Ends where
 nx:St→Hp→Prop
 rt:VK
 bk:St→Hp→Prop:=fun _ _=>False
 ct:St→Hp→Prop:=fun _ _=>False
abbrev TS:=Ends→St→Hp→Prop
def EP (X:Cx) (pins:List (Addr × Obj)) (σ:St) (Q:VK) (u:Value) (s':Shared):Prop:=∃ v H',Inv X pins σ H' s'∧RelV v u∧Q v H'
def TP (X:Cx) (pins:List (Addr × Obj)) (σ:St) (Q:Bool→Hp→Prop) (b:Bool) (s':Shared):Prop:=∃ H',Inv X pins σ H' s'∧Q b H'
def AP (X:Cx) (pins:List (Addr × Obj)) (σ:St) (Q:List V→Hp→Prop) (us:List Value) (s':Shared):Prop:=∃ vs H',Inv X pins σ H' s'∧Vals vs us∧Q vs H'
def SP (X:Cx) (pins:List (Addr × Obj)) (D:Ends) (f:Flow) (s':Shared):Prop:=
 match f with
 | .next=>∃ σ' H',Inv X pins σ' H' s'∧D.nx σ' H'
 | .brk=>∃ σ' H',Inv X pins σ' H' s'∧D.bk σ' H'
 | .cont=>∃ σ' H',Inv X pins σ' H' s'∧D.ct σ' H'
 | .ret u=>∃ v σ' H',Inv X pins σ' H' s'∧RelV v u∧D.rt v H'
def PE (X:Cx) (e:Expr) (t:TE):Prop:=
 ∀ (pins:List (Addr × Obj)) (s:Shared) (σ:St) (H:Hp) (Q:VK),Inv X pins σ H s→t σ H Q→wpAny (model X.prog X.w) X.A (eval e X.env) (EP X pins σ Q) X.xe s
def PT (X:Cx) (e:Expr) (t:TT):Prop:=
 ∀ (pins:List (Addr × Obj)) (s:Shared) (σ:St) (H:Hp) (Q:Bool→Hp→Prop),Inv X pins σ H s→t σ H Q→wpAny (model X.prog X.w) X.A (isTrue e X.env (eval e X.env)) (TP X pins σ Q) X.xe s
def PW (X:Cx) (e:Expr) (t:TT):Prop:=
 ∀ (whole:Sem Value) (pins:List (Addr × Obj)) (s:Shared) (σ:St) (H:Hp) (Q:Bool→Hp→Prop),Inv X pins σ H s→t σ H Q→wpAny (model X.prog X.w) X.A (isTrue e X.env whole) (TP X pins σ Q) X.xe s
theorem PW.pt {X:Cx} {e:Expr} {t:TT} (h:PW X e t):PT X e t:=h _
def PA (X:Cx) (es:List Expr) (t:TA):Prop:=
 ∀ (pos:Pos) (pins:List (Addr × Obj)) (s:Shared) (σ:St) (H:Hp) (Q:List V→Hp→Prop),Inv X pins σ H s→t σ H Q→wpAny (model X.prog X.w) X.A (spliced (backTo pos (starEach es X.env))) (AP X pins σ Q) X.xe s
def PS (X:Cx) (st:Stmt) (t:TS):Prop:=
 ∀ (pins:List (Addr × Obj)) (s:Shared) (σ:St) (H:Hp) (D:Ends),Inv X pins σ H s→t D σ H→wpAny (model X.prog X.w) X.A (exec st X.env) (SP X pins D) X.xe s
def PSs (X:Cx) (st:List Stmt) (t:TS):Prop:=
 ∀ (pins:List (Addr × Obj)) (s:Shared) (σ:St) (H:Hp) (D:Ends),Inv X pins σ H s→t D σ H→wpAny (model X.prog X.w) X.A (execs st X.env) (SP X pins D) X.xe s
theorem thn {α:Type} {t:Sem α} {Q Q':α→Shared→Prop} {M:Model} {A:Around} {E:Value→Shared→Prop} {s:Shared} (h:wpAny M A t Q E s) (hQ : ∀ a s,Q a s→Q' a s):wpAny M A t Q' E s:=wpAny_mono h hQ fun _ _ x=>x
section
variable {X : Cx}
theorem bin {a b:Expr} {ta tb:TE} (ha:PE X a ta) (hb:PE X b tb) {pins:List (Addr × Obj)} {s:Shared} {σ:St} {H:Hp} {R:V→V→Hp→Prop} (I:Inv X pins σ H s) (h:ta σ H fun x H1=>tb σ H1 fun y H2=>R x y H2)
  {α:Type} {Q:α→Shared→Prop} {f:Value→Value→Sem α}
  (hf : ∀ v u s2 x y H2,Inv X pins σ H2 s2→RelV x v→RelV y u→R x y H2→wpAny (model X.prog X.w) X.A (f v u) Q X.xe s2) :
  wpAny (model X.prog X.w) X.A (eval a X.env) (fun v s₁=>wpAny (model X.prog X.w) X.A (eval b X.env) (fun u s₂=>wpAny (model X.prog X.w) X.A (f v u) Q X.xe s₂) X.xe s₁) X.xe s:=by
 refine thn (ha pins s σ H _ I h) fun v s1 ⟨x,H1,I1,r1,q1⟩=>?_
 refine thn (hb pins s1 σ H1 _ I1 q1) fun u s2 ⟨y,H2,I2,r2,q2⟩=>?_
 exact hf v u s2 x y H2 I2 r1 r2 q2
def tVar (i:Nat):TE:=fun σ H Q=>∃ v,σ[i]? = some (some v)∧Q v H
def tC (v:V):TE:=fun _ H Q=>Q v H
theorem pe_var {i:Nat} {x:Str} {pos:Pos} (hN:X.N[i]? = some x) (hv:Vis X.env.scope x) (hd:(x == ("__debug__" : Str))=false:=by decide) (hcd:(x == ("__classdict__" : Str))=false:=by decide):PE X (.Name x pos) (tVar i):=by
 intro pins s σ H Q I h
 obtain ⟨v,e,h⟩:=h
 obtain ⟨m,hn,hl⟩:=I.loc
 obtain ⟨u,r,l⟩:=hl i x v hN e hv
 have fin:EP X pins σ Q u s:=⟨v,H,I,r,h⟩
 rcases l with ⟨hk,hm⟩ | ⟨hk,c,hc,hcell⟩
 ·exact wpAny_Name (wpAny_loadName_local I.ok.kind hk hn hm fin) hd
 ·rcases hk with hk | hk
  ·exact wpAny_Name (wpAny_loadName_cell I.ok.kind hk hc hcell fin) hd
  ·exact wpAny_Name (wpAny_loadName_free I.ok.kind hk hc hcell fin hcd) hd
theorem pe_int {i j pos}:PE X (.Constant (.int i) j pos) (tC (.int i)):=fun _ _ _ H _ I h=>wpAny_Constant_int ⟨.int i,H,I.tok _,⟨_,rfl⟩,h⟩
theorem pe_bl {b j pos}:PE X (.Constant (.bool b) j pos) (tC (.bl b)):=fun _ _ _ H _ I h=>Constant_bool ⟨.bl b,H,I,rfl,h⟩
theorem pe_non {j pos}:PE X (.Constant .none j pos) (tC .non):=fun _ _ _ H _ I h=>Constant_none ⟨.non,H,I,rfl,h⟩
theorem pe_str {x j pos}:PE X (.Constant (.str x) j pos) (tC (.str x)):=fun _ _ _ H _ I h=>Calls.Constant_str ⟨.str x,H,I.tok _,⟨_,rfl⟩,h⟩
def Gl (X:Cx) (x:Str):Prop:=X.env.kindOf x=some .globalImplicit
theorem ld_glob {E:Value→Shared→Prop} {pins:List (Addr × Obj)} {s:Shared} {σ:St} {H:Hp} {x:Str} {u:Value} {pos:Pos} {Q:Value→Shared→Prop} (I:Inv X pins σ H s) (hg:Gl X x) (hm:X.mg x=some u) (h:Q u s)
  (hd:(x == ("__debug__" : Str))=false:=by decide):wpAny (model X.prog X.w) X.A (eval (.Name x pos) X.env) Q E s:=
 Calls.Name_function_global I.ok.kind hg (Calls.loadGlobal_global (by rw [I.ok.glob];exact I.mod.glob.keeps I.bk) hm h) hd
theorem ld_blt {E:Value→Shared→Prop} {pins:List (Addr × Obj)} {s:Shared} {σ:St} {H:Hp} {x:Str} {u:Value} {pos:Pos} {Q:Value→Shared→Prop} (I:Inv X pins σ H s) (hg:Gl X x) (hm:X.mg x=none) (hv:bootBuiltins x=some u) (h:Q u s)
  (hn:x ≠ "__name__" := by decide) (hd:(x == ("__debug__" : Str))=false:=by decide):wpAny (model X.prog X.w) X.A (eval (.Name x pos) X.env) Q E s:=by
 obtain ⟨mb,h1,h2⟩:=I.mod.blt
 exact Calls.Name_function_global I.ok.kind hg (Calls.loadGlobal_builtin (by rw [I.ok.glob];exact I.mod.glob.keeps I.bk) hm (by rw [I.ok.blt];exact h1.keeps I.bk) ((h2 x hn).trans hv) h) hd
theorem pe_glob {x:Str} {v:V} {u:Value} {pos:Pos} (hg:Gl X x) (hm:X.mg x=some u) (r:RelV v u) (hd:(x == ("__debug__" : Str))=false:=by decide):PE X (.Name x pos) (tC v):=
 fun _ _ _ H _ I h=>ld_glob I hg hm ⟨v,H,I,r,h⟩ hd
theorem pe_bltn {x:Str} {v:V} {u:Value} {pos:Pos} (hg:Gl X x) (hm:X.mg x=none) (hv:bootBuiltins x=some u) (r:RelV v u) (hn:x ≠ "__name__" := by decide) (hd:(x == ("__debug__" : Str))=false:=by decide):PE X (.Name x pos) (tC v):=
 fun _ _ _ H _ I h=>ld_blt I hg hm hv ⟨v,H,I,r,h⟩ hn hd
variable {a b : Expr} {ta tb : TE} {pos : Pos}
def PC (X:Cx) (op:CmpOp) (a b:Expr) (t:TE):Prop:=
 ∀ (pins:List (Addr × Obj)) (s:Shared) (σ:St) (H:Hp) (Q:VK),Inv X pins σ H s→t σ H Q →
  wpAny (model X.prog X.w) X.A (eval a X.env) (fun v s₁=>wpAny (model X.prog X.w) X.A (eval b X.env) (fun u s₂=>wpAny (model X.prog X.w) X.A (compareOp op v u) (EP X pins σ Q) X.xe s₂) X.xe s₁) X.xe s
theorem nobehind (b:Expr) {op:CmpOp} (h:op ≠ .In) (h2:op ≠ .NotIn):behindInMarks op b=false:=by
 have e1:(op == CmpOp.In)=false:=by cases op <;> first | rfl | exact absurd rfl h
 have e2:(op == CmpOp.NotIn)=false:=by cases op <;> first | rfl | exact absurd rfl h2
 cases b <;> simp [behindInMarks,e1,e2]
def tB (t:TE):TT:=fun σ H Q=>t σ H fun x H1=>∃ c,x = .bl c∧Q c H1
theorem pt_cmp {op:CmpOp} {t:TE} (h:PC X op a b t) (h1:behindInMarks op b=false:=by first | exact nobehind _ (by decide) (by decide) | rfl):PT X (.Compare a [op] [b] pos) (tB t):=by
 intro pins s σ H Q I hw
 refine wpAny_isTrue_Compare1 (thn (h pins s σ H _ I hw) fun v s1 h1=>thn h1 fun u s2 h2=>thn h2 fun c s3 ⟨x,H1,I1,r1,q1⟩=>?_) h1
 obtain ⟨d,rfl,q⟩:=q1
 cases r1
 exact wpAny_truthy_bool ⟨H1,I1,q⟩
theorem pt_val {e:Expr} {t:TE} (h:PE X e t) (he : ∀ whole,isTrue e X.env whole=(do let v ← whole;standAt e.pos;holding [v] (truthy v)):=by intro _;rfl):PT X e (tB t):=by
 intro pins s σ H Q I hw
 refine isTrue_plain (thn (h pins s σ H _ I hw) fun v s1 ⟨x,H1,I1,r1,q1⟩=>?_) (he _)
 obtain ⟨d,rfl,q⟩:=q1
 cases r1
 exact wpAny_truthy_bool ⟨H1,I1,q⟩
variable {tA tB' : TT} {rest : List Expr}
def tAnd (t u:TT):TT:=fun σ H Q=>t σ H fun c H1=>if c=true then u σ H1 Q else Q false H1
def tOr (t u:TT):TT:=fun σ H Q=>t σ H fun c H1=>if c=true then Q true H1 else u σ H1 Q
def tNot (t:TT):TT:=fun σ H Q=>t σ H fun c H1=>Q (!c) H1
theorem pw_and1 (ha:PT X a tA):PW X (.BoolOp .And [a] pos) tA:=by
 intro wh pins s σ H Q I h
 refine isTrue_and (thn (ha pins s σ H Q I h) fun c s1 e=>?_)
 cases c with
 | true=>exact isTrue_and_nil e
 | false=>exact e
theorem pw_or1 (ha:PT X a tA):PW X (.BoolOp .Or [a] pos) tA:=by
 intro wh pins s σ H Q I h
 refine isTrue_or (thn (ha pins s σ H Q I h) fun c s1 e=>?_)
 cases c with
 | false=>exact isTrue_or_nil e
 | true=>exact e
theorem pw_and (ha:PT X a tA) (hb:PW X (.BoolOp .And (b::rest) pos) tB'):PW X (.BoolOp .And (a::b::rest) pos) (tAnd tA tB'):=by
 intro wh pins s σ H Q I h
 refine isTrue_and (thn (ha pins s σ H _ I h) fun c s1 ⟨H1,I1,q1⟩=>?_)
 cases c with
 | true=>exact hb wh pins s1 σ H1 Q I1 q1
 | false=>exact ⟨H1,I1,q1⟩
theorem pw_or (ha:PT X a tA) (hb:PW X (.BoolOp .Or (b::rest) pos) tB'):PW X (.BoolOp .Or (a::b::rest) pos) (tOr tA tB'):=by
 intro wh pins s σ H Q I h
 refine isTrue_or (thn (ha pins s σ H _ I h) fun c s1 ⟨H1,I1,q1⟩=>?_)
 cases c with
 | true=>exact ⟨H1,I1,q1⟩
 | false=>exact hb wh pins s1 σ H1 Q I1 q1
theorem pt_not (ha:PT X a tA):PT X (.UnaryOp .Not a pos) (tNot tA):=by
 intro pins s σ H Q I h
 exact isTrue_not (ha pins s σ H (fun c H1=>Q (!c) H1) I h)
def tAndV (ta tb:TE):TE:=fun σ H Q=>ta σ H fun x H1=>∃ c,x = .bl c∧if c=true then tb σ H1 Q else Q (.bl false) H1
def tOrV (ta tb:TE):TE:=fun σ H Q=>ta σ H fun x H1=>∃ c,x = .bl c∧if c=true then Q (.bl true) H1 else tb σ H1 Q
def tNotV (ta:TE):TE:=fun σ H Q=>ta σ H fun x H1=>∃ c,x = .bl c∧Q (.bl (!c)) H1
theorem pe_one {op} {t:TE} (h:PE X a t):PE X (.BoolOp op [a] pos) t:=fun pins s σ H Q I hw=>BoolOp_one (h pins s σ H Q I hw)
theorem pe_and (ha:PE X a ta) (hb:PE X (.BoolOp .And (b::rest) pos) tb):PE X (.BoolOp .And (a::b::rest) pos) (tAndV ta tb):=by
 intro pins s σ H Q I h
 refine BoolOp_and (thn (ha pins s σ H _ I h) fun v s1 ⟨x,H1,I1,r1,q1⟩=>?_)
 obtain ⟨c,rfl,q1⟩:=q1
 cases r1
 refine wpAny_truthy_bool ?_
 cases c with
 | true=>exact hb pins s1 σ H1 Q I1 q1
 | false=>exact ⟨.bl false,H1,I1,rfl,q1⟩
theorem pe_or (ha:PE X a ta) (hb:PE X (.BoolOp .Or (b::rest) pos) tb):PE X (.BoolOp .Or (a::b::rest) pos) (tOrV ta tb):=by
 intro pins s σ H Q I h
 refine BoolOp_or (thn (ha pins s σ H _ I h) fun v s1 ⟨x,H1,I1,r1,q1⟩=>?_)
 obtain ⟨c,rfl,q1⟩:=q1
 cases r1
 refine wpAny_truthy_bool ?_
 cases c with
 | false=>exact hb pins s1 σ H1 Q I1 q1
 | true=>exact ⟨.bl true,H1,I1,rfl,q1⟩
theorem pe_not (ha:PE X a ta):PE X (.UnaryOp .Not a pos) (tNotV ta):=by
 intro pins s σ H Q I h
 refine UnaryOp_ (thn (ha pins s σ H _ I h) fun v s1 ⟨x,H1,I1,r1,q1⟩=>?_)
 obtain ⟨c,rfl,q1⟩:=q1
 cases r1
 exact not_of (wpAny_truthy_bool ⟨.bl (!c),H1,I1,rfl,q1⟩)
def tIf (t:TT) (ta tb:TE):TE:=fun σ H Q=>t σ H fun c H1=>if c=true then ta σ H1 Q else tb σ H1 Q
theorem pe_ifExp {c:Expr} (hc:PT X c tA) (ha:PE X a ta) (hb:PE X b tb):PE X (.IfExp c a b pos) (tIf tA ta tb):=by
 intro pins s σ H Q I h
 refine wpAny_IfExp (thn (hc pins s σ H _ I h) fun d s1 ⟨H1,I1,q1⟩=>?_)
 cases d with
 | true=>exact ha pins s1 σ H1 Q I1 q1
 | false=>exact hb pins s1 σ H1 Q I1 q1
end
def SqL (K:W.Frag) (H:Hp) (a:Addr) (xs:List V):Prop:=
 Rd H a (.lst xs) ∨
  ∃ (o:Obj) (its:Array Value) (n:Nat),K.lookup a=some o∧o.cls = .type "list" ∧ o.dict=none∧o.data = .seq its n∧its.size≤sizeLine∧Vals xs its.toList
def SqT (K:W.Frag) (H:Hp) (a:Addr) (xs:List V):Prop:=
 Rd H a (.tup xs) ∨
  ∃ (o:Obj) (its:Array Value) (n:Nat),K.lookup a=some o∧o.cls = .type "tuple" ∧ o.data = .seq its n∧its.size≤sizeLine∧Vals xs its.toList
def absV:Value→Option V
 | .none=>some .non
 | .bool b=>some (.bl b)
 | .int i _=>some (.int i)
 | .str x _=>some (.str x)
 | .bytes b _=>some (.byt b)
 | .float b _=>some (.flt b)
 | .ref a=>some (.ref a)
 | .type n=>some (.ty n)
 | _=>none
theorem RelV.abs {x:V} {u:Value} (r:RelV x u):absV u=some x:=by
 cases x with
 | non=>cases r;rfl
 | bl _=>cases r;rfl
 | int _=>obtain ⟨t,rfl⟩:=r;rfl
 | str _=>obtain ⟨t,rfl⟩:=r;rfl
 | byt _=>obtain ⟨t,rfl⟩:=r;rfl
 | flt _=>obtain ⟨t,rfl⟩:=r;rfl
 | ref _=>cases r;rfl
 | ty _=>cases r;rfl
theorem RelV.inj {x y:V} {u:Value} (r:RelV x u) (q:RelV y u):x=y:=Option.some.inj (r.abs.symm.trans q.abs)
theorem Vals.inj : ∀ {xs ys:List V} {us:List Value},Vals xs us→Vals ys us→xs=ys
 | _,_,_,.nil,.nil=>rfl
 | _,_,_,.cons r t,.cons r' t'=>by rw [r.inj r',Vals.inj t t']
section
variable {X : Cx} {pins : List (Addr × Obj)} {σ : St} {H : Hp} {s : Shared} {a : Addr} {xs ys : List V}
theorem SqL.of {K:W.Frag} (h:H a=some (.lst xs)):SqL K H a xs:=.inl (.inl h)
theorem SqT.of {K:W.Frag} (h:H a=some (.tup xs)):SqT K H a xs:=.inl (.inl h)
theorem Inv.list (I:Inv X pins σ H s) (h:SqL X.K H a xs) : ∃ its:List Value,Vals xs its∧PlainL s.heap a its.toArray∧xs.length≤sizeLine:=by
 rcases h with h | ⟨o,its,n,hk,hc,hd,hs,hz,r⟩
 ·obtain ⟨z,its,n,r,e⟩:=h.ok I.hok
  exact ⟨its,r,⟨_,n,e,rfl,rfl,rfl⟩,z⟩
 ·refine ⟨its.toList,r,⟨o,n,I.kIn a o hk,hc,hd,by simpa using hs⟩,?_⟩
  have e:=r.length
  simp only [Array.length_toList] at e
  omega
theorem Inv.tuple (I:Inv X pins σ H s) (h:SqT X.K H a xs) : ∃ its:List Value,Vals xs its∧IsTup s.heap a its.toArray∧xs.length≤sizeLine:=by
 rcases h with h | ⟨o,its,n,hk,hc,hs,hz,r⟩
 ·obtain ⟨z,its,r,p⟩:=h.ok I.hok
  exact ⟨its,r,p,z⟩
 ·refine ⟨its.toList,r,⟨o,I.kIn a o hk,hc,n,by simpa using hs⟩,?_⟩
  have e:=r.length
  simp only [Array.length_toList] at e
  omega
theorem Inv.list_inj (I:Inv X pins σ H s) (h:SqL X.K H a xs) (h':SqL X.K H a ys):xs=ys:=by
 obtain ⟨its,r,⟨o,n,e,_,_,d⟩,_⟩:=I.list h
 obtain ⟨its',r',⟨o',n',e',_,_,d'⟩,_⟩:=I.list h'
 rw [e] at e';cases e'
 rw [d] at d'
 injection d' with d1 _
 have:its=its':=by simpa using congrArg Array.toList d1
 subst this
 exact r.inj r'
theorem Inv.tuple_inj (I:Inv X pins σ H s) (h:SqT X.K H a xs) (h':SqT X.K H a ys):xs=ys:=by
 obtain ⟨its,r,⟨o,e,_,n,d⟩,_⟩:=I.tuple h
 obtain ⟨its',r',⟨o',e',_,n',d'⟩,_⟩:=I.tuple h'
 rw [e] at e';cases e'
 rw [d] at d'
 injection d' with d1 _
 have:its=its':=by simpa using congrArg Array.toList d1
 subst this
 exact r.inj r'
end
abbrev Cx.wish (X:Cx) (E:Value→Shared→Prop):Cx:={ X with xe:=E }
abbrev Cx.nox (X:Cx):Cx:=X.wish fun _ _=>False
theorem Cx.Ok.wish {X:Cx} (ok:X.Ok) (E:Value→Shared→Prop):(X.wish E).Ok:=
 ⟨ok.mod,ok.kind,ok.glob,ok.blt,ok.above,ok.inj,ok.has,ok.cab,ok.hd,ok.frames,ok.stk,ok.exf,ok.bs,ok.bsz,ok.noex,ok.exfs,ok.funs,ok.frf⟩
theorem Cx.Ok.unwish {X:Cx} {E:Value→Shared→Prop} (ok:(X.wish E).Ok):X.Ok:=
 ⟨ok.mod,ok.kind,ok.glob,ok.blt,ok.above,ok.inj,ok.has,ok.cab,ok.hd,ok.frames,ok.stk,ok.exf,ok.bs,ok.bsz,ok.noex,ok.exfs,ok.funs,ok.frf⟩
section
variable {X : Cx} {pins : List (Addr × Obj)} {σ : St} {H : Hp} {s : Shared} {E : Value → Shared → Prop}
theorem Inv.wish (I:Inv X pins σ H s) (E:Value→Shared→Prop):Inv (X.wish E) pins σ H s:=⟨I.ok.wish E,I.os,I.bare,I.base,I.loc,I.cell,I.free,I.freeC,I.pin,I.hok,I.len⟩
theorem Inv.unwish (I:Inv (X.wish E) pins σ H s):Inv X pins σ H s:=⟨I.ok.unwish,I.os,I.bare,I.base,I.loc,I.cell,I.free,I.freeC,I.pin,I.hok,I.len⟩
theorem SP.unwish {D:Ends} {f:Flow} {s':Shared} (h:SP (X.wish E) pins D f s'):SP X pins D f s':=by
 cases f with
 | next=>obtain ⟨σ',H',I,q⟩:=h;exact ⟨σ',H',I.unwish,q⟩
 | brk=>obtain ⟨σ',H',I,q⟩:=h;exact ⟨σ',H',I.unwish,q⟩
 | cont=>obtain ⟨σ',H',I,q⟩:=h;exact ⟨σ',H',I.unwish,q⟩
 | ret u=>obtain ⟨v,σ',H',I,r,q⟩:=h;exact ⟨v,σ',H',I.unwish,r,q⟩
theorem PE.nox {e:Expr} {t:TE} (h:PE X.nox e t):PE X e t:=fun pins s σ H Q I hw =>
 wpAny_mono (h pins s σ H Q (I.wish _) hw) (fun _ _ ⟨v,H',I',r,q⟩=>⟨v,H',I'.unwish,r,q⟩) fun _ _ z=>False.elim z
theorem PT.nox {e:Expr} {t:TT} (h:PT X.nox e t):PT X e t:=fun pins s σ H Q I hw =>
 wpAny_mono (h pins s σ H Q (I.wish _) hw) (fun _ _ ⟨H',I',q⟩=>⟨H',I'.unwish,q⟩) fun _ _ z=>False.elim z
theorem PSs.nox {st:List Stmt} {t:TS} (h:PSs X.nox st t):PSs X st t:=fun pins s σ H D I hw =>
 wpAny_mono (h pins s σ H D (I.wish _) hw) (fun _ _ q=>q.unwish) fun _ _ z=>False.elim z
end
section
variable {X : Cx} {st : Stmt} {rest : List Stmt} {t u : TS} {e : Expr} {te : TE} {pos : Pos}
def tNext:TS:=fun D σ H=>D.nx σ H
def tSeq (t u:TS):TS:=fun D σ H=>t { D with nx:=u D } σ H
theorem pss_nil:PSs X [] tNext:=fun _ _ σ H _ I h=>wpAny_execs_nil ⟨σ,H,I,h⟩
theorem pss_cons (h1 : PS X st t) (h2 : PSs X rest u) : PSs X (st :: rest) (tSeq t u) := by
  intro pins s σ H D I h
  refine wpAny_execs_cons (thn (h1 pins s σ H { D with nx := u D } I h) fun f s1 q => ?_)
  cases f with
  | next =>
    obtain ⟨σ', H', I', q⟩ := q
    exact h2 pins s1 σ' H' D I' q
  | ret v => exact q
  | brk => exact q
  | cont => exact q
theorem pss_one (h1:PS X st t):PSs X [st] t:=by
 intro pins s σ H D I h
 refine wpAny_execs_cons (thn (h1 pins s σ H D I h) fun f s1 q=>?_)
 cases f with
 | next=>exact wpAny_execs_nil q
 | ret v=>exact q
 | brk=>exact q
 | cont=>exact q
theorem Inv.quiet {pins:List (Addr × Obj)} {σ:St} {H:Hp} {s:Shared} (I:Inv X pins σ H s):interactive X.env=false:=by simp [interactive,I.ok.kind]
def tDrop (te:TE):TS:=fun D σ H=>te σ H fun _ H1=>D.nx σ H1
theorem ps_expr (he:PE X e te) (hs:swapsWith e none pos.line X.env=pure false:=by rfl):PS X (.Expr e pos) (tDrop te):=by
 intro pins s σ H D I h
 exact wpAny_Expr_any (thn (he pins s σ H _ I h) fun v s1 ⟨x,H1,I1,r1,q1⟩=>⟨σ,H1,I1,q1⟩) I.quiet hs
def tRet (te:TE):TS:=fun D σ H=>te σ H D.rt
theorem ps_ret (he:PE X e te):PS X (.Return (some e) pos) (tRet te):=by
 intro pins s σ H D I h
 exact wpAny_Return_some (thn (he pins s σ H _ I h) fun v s1 ⟨x,H1,I1,r1,q1⟩=>⟨x,σ,H1,I1,r1,q1⟩)
def tIfS (c:TT) (t u:TS):TS:=fun D σ H=>c σ H fun b H1=>if b=true then t D σ H1 else u D σ H1
theorem ps_if {c:Expr} {a b:List Stmt} {tc:TT} (hc:PT X c tc) (ha:PSs X a t) (hb:PSs X b u):PS X (.If c a b pos) (tIfS tc t u):=by
 intro pins s σ H D I h
 refine wpAny_If (thn (hc pins s σ H _ I h) fun d s1 ⟨H1,I1,q1⟩=>?_)
 cases d with
 | true=>exact ha pins s1 σ H1 D I1 q1
 | false=>exact hb pins s1 σ H1 D I1 q1
def tNever:TS:=fun _ _ _=>False
theorem ps_never:PS X st tNever:=fun _ _ _ _ _ _ h=>h.elim
end
abbrev TG:=V→St→Hp→(St→Hp→Prop)→Prop
abbrev TGs:=List V→St→Hp→(St→Hp→Prop)→Prop
def PG (X:Cx) (target:Expr) (t:TG):Prop:=
 ∀ (pins:List (Addr × Obj)) (s:Shared) (σ:St) (H:Hp) (v:V) (u:Value) (Q:St→Hp→Prop),Inv X pins σ H s→RelV v u→t v σ H Q →
  wpAny (model X.prog X.w) X.A (assign target X.env u) (fun _ s'=>∃ σ' H',Inv X pins σ' H' s'∧Q σ' H') X.xe s
def PGs (X:Cx) (ts:List Expr) (t:TGs):Prop:=
 ∀ (pins:List (Addr × Obj)) (s:Shared) (σ:St) (H:Hp) (vs:List V) (us:List Value) (Q:St→Hp→Prop),Inv X pins σ H s→Vals vs us→t vs σ H Q →
  wpAny (model X.prog X.w) X.A (assignInOrder ((assignEach ts X.env).map (·.2)) us) (fun _ s'=>∃ σ' H',Inv X pins σ' H' s'∧Q σ' H') X.xe s
section
variable {X : Cx} {pos : Pos}
def gName (i:Nat):TG:=fun v σ H Q=>Q (σ.set i (some v)) H
theorem pg_name {i:Nat} {x:Str} (hN:X.N.Nodup) (hi:X.N[i]? = some x) (hx:Loc X.env.scope x) (hf:X.fn x=true∨X.env.scope.names.lookup x=some .local:=by first | exact .inl rfl | exact .inr rfl | assumption):PG X (.Name x pos) (gName i):=by
 intro pins s σ H v u Q I r h
 exact wpAny_assign_Name (store_ok I hN hi hx r (fun s' I'=>⟨_,H,I',h⟩) hf)
def gNil:TGs:=fun vs σ H Q=>vs=[]∧Q σ H
def gCons (t:TG) (u:TGs):TGs:=fun vs σ H Q=>∃ v r,vs=v::r∧t v σ H fun σ' H'=>u r σ' H' Q
theorem pgs_nil:PGs X [] gNil:=by
 intro pins s σ H vs us Q I r h
 obtain ⟨e,h⟩:=h
 subst e
 cases r
 exact assignInOrder_nil ⟨σ,H,I,h⟩
theorem pgs_cons {e : Expr} {es : List Expr} {t : TG} {u : TGs} (h1 : PG X e t) (h2 : PGs X es u)
    (hs : (assignEach (e :: es) X.env).map (·.2) = assign e X.env :: (assignEach es X.env).map (·.2) := by rfl) : PGs X (e :: es) (gCons t u) := by
  intro pins s σ H vs us Q I r h
  obtain ⟨v, vr, e1, h⟩ := h
  subst e1
  cases r with
  | cons r rr =>
    rw [hs]
    refine assignInOrder_cons (thn (h1 pins s σ H _ _ _ I r h) fun _ s1 ⟨σ1, H1, I1, q1⟩ => ?_)
    exact h2 pins s1 σ1 H1 _ _ Q I1 rr q1
def gTup (K:W.Frag) (n:Nat) (t:TGs):TG:=fun v σ H Q=>∃ a xs,v = .ref a∧SqT K H a xs∧xs.length=n∧t xs σ H Q
theorem pg_tup {es:List Expr} {k:Nat} {t:TGs} {n:Nat} (hc:X.calm=true) (h:PGs X es t)
  (hn:(assignEach es X.env).length=n:=by rfl) (hst:(assignEach es X.env).findIdx? (·.1)=none:=by rfl):PG X (.Tuple es k pos) (gTup X.K n t):=by
 intro pins s σ H v u Q I r hw
 obtain ⟨a,xs,e1,hq,hl,hw⟩:=hw
 subst e1
 cases r
 obtain ⟨its,rv,ht,hz⟩:=I.tuple hq
 refine assign_Tuple_tuple (I.ok.hd hc) ht (by simp [hn,← hl,rv.length]) hst fun h' hx=>?_
 have I1:Inv X pins σ H { s with heap:=h' }:=I.kept (t':=s.toks) fun b o e=>hx b o (Nat.ne_of_lt (Heap.lt_size e)) e
 exact h pins _ σ H xs _ Q I1 (by simpa using rv) hw
def tAsg (te:TE) (g:TG):TS:=fun D σ H=>te σ H fun x H1=>g x σ H1 D.nx
theorem ps_asg {tg e:Expr} {te:TE} {g:TG} (he:PE X e te) (hg:PG X tg g) (hs:swapsWithSole [tg] e pos.line X.env=pure false:=by rfl) (hw:swappedStores [tg] e X.env=pure none:=by rfl)
  (h1:(assignEach [tg] X.env).map (·.2)=[assign tg X.env]:=by rfl):PS X (.Assign [tg] e pos) (tAsg te g):=by
 intro pins s σ H D I h
 refine wpAny_Assign_stores (thn (he pins s σ H _ I h) fun v s1 ⟨x,H1,I1,r1,q1⟩=>?_) hs hw
 rw [h1]
 exact thn (hg pins s1 σ H1 x v _ I1 r1 q1) fun _ s2 q=>q
theorem ps_set {i:Nat} {x:Str} {e:Expr} {te:TE} {pos':Pos} (hN:X.N.Nodup) (hi:X.N[i]? = some x) (hx:Loc X.env.scope x) (he:PE X e te) (hs:swapsWith e (some (.Name x pos')) pos.line X.env=pure false:=by rfl) (hf:X.fn x=true∨X.env.scope.names.lookup x=some .local:=by first | exact .inl rfl | exact .inr rfl | assumption) :
  PS X (.Assign [.Name x pos'] e pos) (tAsg te (gName i)):=by
 intro pins s σ H D I h
 refine wpAny_Assign_Name (thn (he pins s σ H _ I h) fun v s1 ⟨y,H1,I1,r1,q1⟩=>?_) hs
 exact store_ok I1 hN hi hx r1 (fun s2 I2=>⟨_,H1,I2,q1⟩) hf
end
section
variable {X : Cx} {pos : Pos}
def tWhile (c:TT) (tb:TS):TS:=fun D σ H=>∃ W:Nat→St→Hp→Prop,(∃ m,W m σ H) ∧ ∀ m σ H,W m σ H →
 c σ H fun b H1=>if b=true then ∃ N:St→Hp→Prop,(∀ σ' H',N σ' H' → ∃ m',m' < m∧W m' σ' H')∧tb { D with nx:=N,ct:=N,bk:=D.nx } σ H1 else D.nx σ H1
theorem ps_while {c : Expr} {body : List Stmt} {tc : TT} {tb : TS} (hp : PassesOwn (model X.prog X.w) X.A X.env X.xe) (hc : PT X c tc) (hb : PSs X body tb) : PS X (.While c body [] pos) (tWhile tc tb) := by
  intro pins s σ H D I h
  obtain ⟨W, ⟨m0, w0⟩, turn⟩ := h
  refine wpAny_While (codeAny_whileLoop (fun n s' => ∃ σ' H', Inv X pins σ' H' s' ∧ W n σ' H') ?_ m0 ⟨σ, H, I, w0⟩)
  rintro n s1 ⟨σ1, H1, I1, w1⟩
  refine wpAny_passesOwn hp (thn (hc pins s1 σ1 H1 _ I1 (turn n σ1 H1 w1)) fun b s2 ⟨H2, I2, q2⟩ => ?_)
  cases b with
  | true =>
    obtain ⟨N, hN, q2⟩ := q2
    rw [if_pos rfl]
    refine wpAny_passesOwn hp (thn (hb pins s2 σ1 H2 _ I2 q2) fun f s3 q3 => ?_)
    cases f with
    | next =>
      obtain ⟨σ3, H3, I3, n3⟩ := q3
      obtain ⟨m', hm, w3⟩ := hN σ3 H3 n3
      exact ⟨m', hm, σ3, H3, I3, w3⟩
    | cont =>
      obtain ⟨σ3, H3, I3, n3⟩ := q3
      obtain ⟨m', hm, w3⟩ := hN σ3 H3 n3
      exact ⟨m', hm, σ3, H3, I3, w3⟩
    | brk => exact q3
    | ret v => exact q3
  | false =>
    rw [if_neg Bool.false_ne_true]
    exact wpAny_execs_nil ⟨σ1, H2, I2, q2⟩
end
structure It where
 go:Nat→Hp→Prop
 yld:Nat→Hp→V→Hp→Prop
 stop:Nat→Hp→Prop
def FpOk (X:Cx) (pins:List (Addr × Obj)) (H:Hp) (b:Addr):Prop:=
 H b=none∧b≠X.env.locals∧b ∉ X.fs∧(b ∈ X.ex∨X.s₀.heap.objs.size≤b)∧(∀ x c,X.env.cells.lookup x=some c→c≠b) ∧ ∀ p ∈ X.pn++pins,p.1≠b
theorem Inv.fpOk {X:Cx} {pins:List (Addr × Obj)} {σ:St} {H H':Hp} {s:Shared} {b:Addr} (I:Inv X pins σ H s) (hb:s.heap.objs.size≤b) (hn:H' b=none):FpOk X pins H' b:=by
 refine ⟨hn,Nat.ne_of_gt (Nat.lt_of_lt_of_le I.lt hb),I.nofs hb,.inr (Nat.le_trans I.sz hb),fun x c e z=>?_,fun p hp z=>?_⟩
 ·obtain ⟨v,q⟩:=I.cell x c e
  exact absurd (Nat.lt_of_lt_of_le q.lt (by rw [z];exact hb)) (Nat.lt_irrefl _)
 ·exact absurd (Nat.lt_of_lt_of_le (Heap.lt_size (I.pin p hp).1) (by rw [z];exact hb)) (Nat.lt_irrefl _)
structure Turn (P:Program) (w:World) (K:W.Frag) (tg:Expr) (J:It) (fp:List Addr) (it:Addr) (tn:Nat→Heap→Prop):Prop where
 mem:it ∈ fp
 obj : ∀ i h,tn i h → ∀ b ∈ fp,∃ o,h.get? b=some o ∧ ∀ v,o.data ≠ .cell v
 keep : ∀ i h h',tn i h→(∀ b ∈ fp,∀ o,h.get? b=some o→h'.get? b=some o)→tn i h'
 item : ∀ (X:Cx),X.prog=P→X.w=w→X.K=K→X.calm=true → ∀ (i:Nat) (pins:List (Addr × Obj)) (s:Shared) (σ:St) (H:Hp) (E:Value→Shared→Prop),Inv X pins σ H s→(∀ b ∈ fp,FpOk X pins H b)→tn i s.heap→J.go i H →
  wpAny (model P w) X.A (pyNext (.ref it)) (fun r s1=>∃ u,r=some u ∧
   wpAny (model P w) X.A (letOwnedTupleGo tg (.ref it) u) (fun _ s2=>∃ x H',Inv X pins σ H' s2∧RelV x u∧J.yld i H x H'∧tn (i+1) s2.heap ∧ ∀ b ∈ fp,H' b=none) E s1) E s
 done : ∀ (X:Cx),X.prog=P→X.w=w→X.K=K→X.calm=true → ∀ (i:Nat) (pins:List (Addr × Obj)) (s:Shared) (σ:St) (H:Hp) (E:Value→Shared→Prop),Inv X pins σ H s→(∀ b ∈ fp,FpOk X pins H b)→tn i s.heap→J.stop i H →
  wpAny (model P w) X.A (pyNext (.ref it)) (fun r s1=>r=none∧Inv X pins σ H s1) E s
 self : ∀ (A:Around) (i:Nat) (s:Shared) (Q:Value→Shared→Prop) (E:Value→Shared→Prop),tn i s.heap→Q (.ref it) s→wpAny (model P w) A (pyIter (.ref it)) Q E s
abbrev TI:=St→Hp→(It→Hp→Prop)→Prop
def PIE (X:Cx) (pins:List (Addr × Obj)) (σ:St) (tg:Expr) (R:It→Hp→Prop) (itv:Value) (s2:Shared):Prop:=
 ∃ (it:Addr) (fp:List Addr) (tn:Nat→Heap→Prop) (J:It) (H':Hp),itv = .ref it∧Inv X pins σ H' s2∧Turn X.prog X.w X.K tg J fp it tn∧tn 0 s2.heap∧(∀ b ∈ fp,FpOk X pins H' b)∧R J H'
def PI (X:Cx) (tg iter:Expr) (wi:TI):Prop:=
 ∀ (pins:List (Addr × Obj)) (s:Shared) (σ:St) (H:Hp) (R:It→Hp→Prop),Inv X pins σ H s→wi σ H R →
  wpAny (model X.prog X.w) X.A (eval iter X.env) (fun v s1=>wpAny (model X.prog X.w) X.A (pyIter v) (PIE X pins σ tg R) X.xe s1) X.xe s
theorem go_of {M : Model} {A : Around} {E : Value → Shared → Prop} {s : Shared} {tg : Expr} {it : Addr} {u : Value} {o : Obj} {n : String} {vs : Array Value} {Q : Unit → Shared → Prop} (ho : s.heap.get? it = some o) (hc : o.cls = .type n) (hd : o.data = .fields vs)
    (hn : ["enumerate", "zip", "dict_itemiterator", "dict_reverseitemiterator", "odict_iterator", "itertools.zip_longest", "itertools.pairwise"].contains n = false) (hQ : Q () s) : wpAny M A (letOwnedTupleGo tg (.ref it) u) Q E s := by
  unfold letOwnedTupleGo
  cases tg <;> first
    | exact wpAny_pure hQ
    | (cases u <;> first
        | exact wpAny_pure hQ
        | (refine wpAny_bind (wpAny_load ho ?_)
           rw [hc, hd]
           show wpAny M A (if (["enumerate", "zip", "dict_itemiterator", "dict_reverseitemiterator", "odict_iterator", "itertools.zip_longest", "itertools.pairwise"].contains n && vs[0]? == some (rawInt _)) = true then _ else _) Q E s
           rw [if_neg (by intro h; rw [hn, Bool.false_and] at h; cases h)]
           exact wpAny_pure hQ))
def Itl (K:W.Frag) (a:Addr):It:=
 ⟨fun i H=>∃ xs x,SqL K H a xs∧xs[i]? = some x,fun i H x H'=>H'=H ∧ ∀ xs,SqL K H a xs→xs[i]? = some x,fun i H=>∃ xs,SqL K H a xs∧xs.length≤i⟩
def Itt (K:W.Frag) (a:Addr):It:=
 ⟨fun i H=>∃ xs x,SqT K H a xs∧xs[i]? = some x,fun i H x H'=>H'=H ∧ ∀ xs,SqT K H a xs→xs[i]? = some x,fun i H=>∃ xs,SqT K H a xs∧xs.length≤i⟩
def Itr (lo:Int) (n:Nat):It:=⟨fun i _=>i < n,fun i H x H'=>H'=H∧x = .int (lo+i),fun i _=>n≤i⟩
theorem turn_list {P:Program} {w:World} {K:W.Frag} {tg:Expr} (a it:Addr):Turn P w K tg (Itl K a) [it] it (fun i h=>h.IsListIter it a i) where
 mem:=by simp
 obj:=fun i h st b hb=>by
  have e:b=it:=by simpa using hb
  subst e
  obtain ⟨o,e,c,d⟩:=st
  exact ⟨o,e,fun v z=>by rw [d] at z;cases z⟩
 keep:=fun i h h' st k=>st.at fun o e=>k it (by simp) o e
 item:=by
  intro X hP hw hK hc i pins s σ H E I hf st hg
  subst hP hw hK
  obtain ⟨xs,x,hq,hx⟩:=hg
  obtain ⟨its,rv,p,hz⟩:=I.list hq
  obtain ⟨u,hu,ru⟩:=rv.get hx
  obtain ⟨f0,f1,f2,f3,f4,f5⟩:=hf it (by simp)
  refine wpAny_pyNext_list_item st p.isList (x:=u) (by simpa using hu) fun h' st' sb=>?_
  have I1:Inv X pins σ H { s with heap:=h' }:=I.turned (t':=s.toks) (fun b o hb e=>(sb.2 b hb).trans e) f0 f1 f3 f4 f5
  obtain ⟨o,e,c,d⟩:=id st'
  exact ⟨u,rfl,go_of (s:={ s with heap:=h' }) e c d (by decide) ⟨x,H,I1,ru,⟨rfl,fun ys hy=>by rw [I.list_inj hy hq];exact hx⟩,st',fun b hb=>(hf b hb).1⟩⟩
 done:=by
  intro X hP hw hK hc i pins s σ H E I hf st hg
  subst hP hw hK
  obtain ⟨xs,hq,hx⟩:=hg
  obtain ⟨its,rv,p,hz⟩:=I.list hq
  obtain ⟨f0,f1,f2,f3,f4,f5⟩:=hf it (by simp)
  have hl:=rv.length
  exact wpAny_pyNext_list_end (I.ok.hd hc) st p.isList (by simp;omega) fun h' eb=>⟨rfl,I.turned (t':=s.toks) (fun b o hb e=>eb b o hb e) f0 f1 f3 f4 f5⟩
 self:=fun _ _ _ _ _ st h=>wpAny_pyIter_listiter st h
theorem turn_tuple {P:Program} {w:World} {K:W.Frag} {tg:Expr} (a it:Addr):Turn P w K tg (Itt K a) [it] it (fun i h=>h.IsTupleIter it a i) where
 mem:=by simp
 obj:=fun i h st b hb=>by
  have e:b=it:=by simpa using hb
  subst e
  obtain ⟨o,e,c,d⟩:=st
  exact ⟨o,e,fun v z=>by rw [d] at z;cases z⟩
 keep:=fun i h h' st k=>st.at fun o e=>k it (by simp) o e
 item:=by
  intro X hP hw hK hc i pins s σ H E I hf st hg
  subst hP hw hK
  obtain ⟨xs,x,hq,hx⟩:=hg
  obtain ⟨its,rv,p,hz⟩:=I.tuple hq
  obtain ⟨u,hu,ru⟩:=rv.get hx
  obtain ⟨f0,f1,f2,f3,f4,f5⟩:=hf it (by simp)
  refine wpAny_pyNext_tuple_item st (show s.heap.IsTuple a its.toArray from p) (x:=u) (by simpa using hu) fun h' st' sb=>?_
  have I1:Inv X pins σ H { s with heap:=h' }:=I.turned (t':=s.toks) (fun b o hb e=>(sb.2 b hb).trans e) f0 f1 f3 f4 f5
  obtain ⟨o,e,c,d⟩:=id st'
  exact ⟨u,rfl,go_of (s:={ s with heap:=h' }) e c d (by decide) ⟨x,H,I1,ru,⟨rfl,fun ys hy=>by rw [I.tuple_inj hy hq];exact hx⟩,st',fun b hb=>(hf b hb).1⟩⟩
 done:=by
  intro X hP hw hK hc i pins s σ H E I hf st hg
  subst hP hw hK
  obtain ⟨xs,hq,hx⟩:=hg
  obtain ⟨its,rv,p,hz⟩:=I.tuple hq
  obtain ⟨f0,f1,f2,f3,f4,f5⟩:=hf it (by simp)
  have hl:=rv.length
  exact wpAny_pyNext_tuple_end (I.ok.hd hc) st (show s.heap.IsTuple a its.toArray from p) (by simp;omega) fun h' eb=>⟨rfl,I.turned (t':=s.toks) (fun b o hb e=>eb b o hb e) f0 f1 f3 f4 f5⟩
 self:=fun _ _ _ _ _ st h=>wpAny_pyIter_tupleiter st h
theorem turn_range {P:Program} {w:World} {K:PySem.W.Frag} {tg:Expr} (it:Addr) (lo:Int) (n:Nat):Turn P w K tg (Itr lo n) [it] it (fun i h=>IsRangeIter h it (lo+(i:Nat)*1) ((n:Int) - (i:Nat)) 1) where
 mem:=by simp
 obj:=fun i h st b hb=>by
  have e:b=it:=by simpa using hb
  subst e
  exact ⟨_,st,fun v z=>by
   have z':Data.fields _=Data.cell v:=z
   cases z'⟩
 keep:=fun i h h' st k=>k it (by simp) _ st
 item:=by
  intro X hP hw hK hc i pins s σ H E I hf st hg
  subst hP hw hK
  obtain ⟨f0,f1,f2,f3,f4,f5⟩:=hf it (by simp)
  have W:=Walks.range (prog:=X.prog) (w:=X.w) (I.ok.hd hc) it lo 1 n
  refine W.item i s _ _ hg st fun v h' tk hv st' kk=>?_
  obtain ⟨t,rfl⟩:=hv
  have I1:Inv X pins σ H { s with heap:=h',toks:=tk }:=I.turned (fun b o hb e=>kk b o (by simpa using hb) e) f0 f1 f3 f4 f5
  refine ⟨_,rfl,go_of (s:={ s with heap:=h',toks:=tk }) (n:="range_iterator") st' rfl rfl (by decide) ⟨.int (lo+i),H,I1,⟨t,?_⟩,⟨rfl,rfl⟩,st',fun b hb=>(hf b hb).1⟩⟩
  rw [Int.mul_one]
 done:=by
  intro X hP hw hK hc i pins s σ H E I hf st hg
  subst hP hw hK
  obtain ⟨f0,f1,f2,f3,f4,f5⟩:=hf it (by simp)
  exact wpAny_pyNext_range_end (I.ok.hd hc) st (by have:n≤i:=hg;omega) fun h' eb=>⟨rfl,I.turned (t':=s.toks) (fun b o hb e=>eb b o hb e) f0 f1 f3 f4 f5⟩
 self:=fun _ _ _ _ _ st h=>wpAny_pyIter_rangeiter st h
section
variable {X : Cx} {tg : Expr}
def iList (K:W.Frag) (tl:TE):TI:=fun σ H R=>tl σ H fun x H1=>∃ a,x = .ref a∧(∃ xs,SqL K H1 a xs)∧R (Itl K a) H1
def iTup (K:W.Frag) (tl:TE):TI:=fun σ H R=>tl σ H fun x H1=>∃ a,x = .ref a∧(∃ xs,SqT K H1 a xs)∧R (Itt K a) H1
theorem pi_list {l:Expr} {tl:TE} (hl:PE X l tl):PI X tg l (iList X.K tl):=by
 intro pins s σ H R I h
 refine thn (hl pins s σ H _ I h) fun v s1 ⟨x,H1,I1,r1,q1⟩=>?_
 obtain ⟨a,e,⟨xs,hq⟩,q⟩:=q1
 subst e
 cases r1
 obtain ⟨its,rv,p,hz⟩:=I1.list hq
 refine wpAny_pyIter_list p.isList ?_
 refine ⟨s1.heap.objs.size,[s1.heap.objs.size],_,_,H1,rfl,I1.kept (t':=s1.toks) fun b o e=>Heap.get?_push_of_some _ e,turn_list a _,⟨_,Heap.get?_push_size _ rfl,rfl,rfl⟩,fun b hb=>?_,q⟩
 have e:b=s1.heap.objs.size:=by simpa using hb
 subst e
 exact I1.fpOk (Nat.le_refl _) (I1.hok.fresh (Nat.le_refl _))
theorem pi_tup {l:Expr} {tl:TE} (hl:PE X l tl):PI X tg l (iTup X.K tl):=by
 intro pins s σ H R I h
 refine thn (hl pins s σ H _ I h) fun v s1 ⟨x,H1,I1,r1,q1⟩=>?_
 obtain ⟨a,e,⟨xs,hq⟩,q⟩:=q1
 subst e
 cases r1
 obtain ⟨its,rv,p,hz⟩:=I1.tuple hq
 refine wpAny_pyIter_tuple (show s1.heap.IsTuple a its.toArray from p) ?_
 refine ⟨s1.heap.objs.size,[s1.heap.objs.size],_,_,H1,rfl,I1.kept (t':=s1.toks) fun b o e=>Heap.get?_push_of_some _ e,turn_tuple a _,⟨_,Heap.get?_push_size _ rfl,rfl,rfl⟩,fun b hb=>?_,q⟩
 have e:b=s1.heap.objs.size:=by simpa using hb
 subst e
 exact I1.fpOk (Nat.le_refl _) (I1.hok.fresh (Nat.le_refl _))
theorem range_it {pins:List (Addr × Obj)} {σ:St} {H:Hp} {s:Shared} {R:It→Hp→Prop} {E:Value→Shared→Prop} {lo hi:Int} {t u v:Tok} {tk:Nat} (I:Inv X pins σ H s) (h1 : -(2 ^ 62)≤lo) (h2:lo < 2 ^ 62) (h3 : -(2 ^ 62)≤hi) (h4:hi < 2 ^ 62)
  (q:R (Itr lo (hi - lo).toNat) H):wpAny (model X.prog X.w) X.A (pyIter (.ref s.heap.objs.size)) (PIE X pins σ tg R) E { s with heap:=s.heap.push { cls:=.type "range", data:=.fields #[.int lo t,.int hi u,.int 1 v] },toks:=tk }:=by
 refine wpAny_pyIter_range (IsRange.new ..) (small_one h1 h2 h3 h4) ?_
 have I1:Inv X pins σ H { s with heap:=s.heap.push { cls:=.type "range", data:=.fields #[.int lo t,.int hi u,.int 1 v] },toks:=tk }:=I.kept fun b o e=>Heap.get?_push_of_some _ e
 refine ⟨(s.heap.push { cls:=.type "range", data:=.fields #[.int lo t,.int hi u,.int 1 v] }).objs.size,[(s.heap.push { cls:=.type "range", data:=.fields #[.int lo t,.int hi u,.int 1 v] }).objs.size],_,_,H,rfl,
  I1.kept (t':=tk) fun b o e=>Heap.get?_push_of_some _ e,turn_range _ lo (hi - lo).toNat,?_,fun b hb=>?_,q⟩
 ·have e1:lo+((0:Nat):Int)*1=lo:=by simp
  have e2:(((hi - lo).toNat:Nat):Int) - ((0:Nat):Int)=Builtin.Range.rangeSize lo hi 1:=by rw [rangeSize_one];split <;> omega
  show IsRangeIter _ _ (lo+((0:Nat):Int)*1) ((((hi - lo).toNat:Nat):Int) - ((0:Nat):Int)) 1
  rw [e1,e2]
  exact Heap.get?_push_size _ rfl
 ·have e:b=(s.heap.push { cls:=.type "range", data:=.fields #[.int lo t,.int hi u,.int 1 v] }).objs.size:=by simpa using hb
  subst e
  exact I1.fpOk (Nat.le_refl _) (I1.hok.fresh (Nat.le_refl _))
def iRng1 (ta:TA):TI:=fun σ H R=>ta σ H fun vs H1=>∃ j:Int,vs=[.int j] ∧ -(2 ^ 62)≤j∧j < 2 ^ 62∧R (Itr 0 j.toNat) H1
theorem pi_range1 {a : Expr} {ta : TA} {p pos : Pos} (hg : Gl X "range") (hm : X.mg "range" = none) (ha : PA X [a] ta) (hs : starEach [a] X.env = [(false, eval a X.env)] := by rfl) : PI X tg (.Call (.Name "range" p) [a] [] pos) (iRng1 ta) := by
  intro pins s σ H R I h
  refine Call_ (ld_blt I hg hm boot_range (PyProof.Rows.callWith_type1 (thn (ha pos pins s σ H _ I h) fun us s1 ⟨vs, H1, I1, r1, q1⟩ => ?_) hs rfl))
  obtain ⟨j, e, q1, q2, q⟩ := q1
  subst e
  cases r1 with
  | cons r rr =>
    cases rr
    obtain ⟨t, rfl⟩ := r
    exact call_range_1 (range_it I1 (by omega) (by omega) q1 q2 (by simpa using q))
def tFor (wi:TI) (g:TG) (tb:TS):TS:=fun D σ H=>wi σ H fun J H1=>∃ W:Nat→Nat→St→Hp→Prop,(∃ m,W 0 m σ H1) ∧ ∀ i m σ H,W i m σ H →
 (J.stop i H∧D.nx σ H)∨(J.go i H ∧ ∃ N:St→Hp→Prop,(∀ σ' H',N σ' H' → ∃ m',m' < m∧W (i+1) m' σ' H') ∧ ∀ x H',J.yld i H x H'→g x σ H' fun σ2 H2=>tb { D with nx:=N,ct:=N,bk:=D.nx } σ2 H2)
def pinsAt (fp:List Addr) (h:Heap):List (Addr × Obj):=fp.filterMap fun b=>(h.get? b).map fun o=>(b,o)
theorem mem_pinsAt {fp:List Addr} {h:Heap} {b:Addr} {o:Obj} (hb:b ∈ fp) (e:h.get? b=some o):(b,o) ∈ pinsAt fp h:=List.mem_filterMap.mpr ⟨b,hb,by rw [e];rfl⟩
theorem of_pinsAt {fp : List Addr} {h : Heap} {p : Addr × Obj} (hp : p ∈ pinsAt fp h) : p.1 ∈ fp ∧ h.get? p.1 = some p.2 := by
  obtain ⟨b, hb, e⟩ := List.mem_filterMap.mp hp
  cases q : h.get? b with
  | none => rw [q] at e; cases e
  | some o =>
    rw [q] at e
    have e' : (b, o) = p := Option.some.inj e
    subst e'
    exact ⟨hb, q⟩
theorem Inv.pinned {pins:List (Addr × Obj)} {σ:St} {H:Hp} {s:Shared} {fp:List Addr} (I:Inv X pins σ H s) (hf : ∀ b ∈ fp,FpOk X pins H b) (ho : ∀ b ∈ fp,∃ o,s.heap.get? b=some o ∧ ∀ v,o.data ≠ .cell v):Inv X (pins++pinsAt fp s.heap) σ H s:=
 I.pins_of fun p hp=>(List.mem_append.mp hp).elim (fun z=>I.pin p (List.mem_append_right _ z)) fun z=>by
  obtain ⟨hb,e⟩:=of_pinsAt z
  obtain ⟨f0,f1,f2,_⟩:=hf p.1 hb
  obtain ⟨o,e',d⟩:=ho p.1 hb
  rw [e] at e';cases e'
  exact ⟨e,f0,f1,f2,d⟩
theorem Inv.unpinned {pins pl:List (Addr × Obj)} {σ:St} {H:Hp} {s:Shared} (I:Inv X (pins++pl) σ H s):Inv X pins σ H s:=I.pins_of fun p hp=>I.pin p (List.mem_append_right _ (List.mem_append_left _ hp))
theorem ps_for {iter:Expr} {body:List Stmt} {wi:TI} {g:TG} {tb:TS} {pos:Pos} (hp:PassesOwn (model X.prog X.w) X.A X.env X.xe) (hc:X.calm=true) (hi:PI X tg iter wi) (hg:PG X tg g) (hb:PSs X body tb)
  (hs : ∀ x,foldedSetIterable iter X.env x=pure x:=by intro _;rfl):PS X (.For tg iter body [] pos) (tFor wi g tb):=by
 intro pins s σ H D I h
 refine wpAny_For (thn (hi pins s σ H _ I h) fun v s1 h1=>thn h1 fun itv s2 h2=>?_) hs
 obtain ⟨it,fp,tn,J,H2,e,I2,T,st2,f2,W,⟨m0,w0⟩,turn⟩:=h2
 subst e
 have stat : ∀ {H':Hp},(∀ b ∈ fp,H' b=none) → ∀ b ∈ fp,FpOk X pins H' b:=fun hn b hb=>⟨hn b hb,(f2 b hb).2⟩
 refine codeAny_forLoop_any (fun n s'=>∃ i σ' H',Inv X pins σ' H' s'∧tn i s'.heap∧(∀ b ∈ fp,H' b=none)∧W i n σ' H') ?_ m0 ⟨0,σ,H2,I2,st2,fun b hb=>(f2 b hb).1,w0⟩
 rintro n s3 ⟨i,σ3,H3,I3,st3,fr3,w3⟩
 rcases turn i n σ3 H3 w3 with ⟨stop,qn⟩ | ⟨go,N,hN,step⟩
 ·refine wpAny_passesOwn hp (thn (T.done X rfl rfl rfl hc i pins s3 σ3 H3 X.xe I3 (stat fr3) st3 stop) fun r s4 ⟨hr,I4⟩=>?_)
  subst hr
  exact wpAny_execs_nil ⟨σ3,H3,I4,qn⟩
 ·refine wpAny_passesOwn hp (thn (T.item X rfl rfl rfl hc i pins s3 σ3 H3 X.xe I3 (stat fr3) st3 go) fun r s4 ⟨u,hr,h4⟩=>?_)
  subst hr
  refine wpAny_passesOwn hp (thn h4 fun _ s5 ⟨x,H5,I5,r5,y5,st5,fr5⟩=>?_)
  have I5':=I5.pinned (stat fr5) (T.obj _ _ st5)
  refine wpAny_passesOwn hp (thn (hg _ s5 σ3 H5 x u _ I5' r5 (step x H5 y5)) fun _ s6 ⟨σ6,H6,I6,q6⟩=>?_)
  refine wpAny_passesOwn hp (thn (hb _ s6 σ6 H6 _ I6 q6) fun f s7 q7=>?_)
  have again : ∀ {σ7:St} {H7:Hp},Inv X (pins++pinsAt fp s5.heap) σ7 H7 s7→N σ7 H7 → ∃ m,m < n ∧ ∃ i σ' H',Inv X pins σ' H' s7∧tn i s7.heap∧(∀ b ∈ fp,H' b=none)∧W i m σ' H':=fun {σ7 H7} I7 n7=>by
   obtain ⟨m',hm,w7⟩:=hN σ7 H7 n7
   refine ⟨m',hm,i+1,σ7,H7,I7.unpinned,T.keep _ _ _ st5 fun b hb o e=>(I7.pin (b,o) (List.mem_append_right _ (List.mem_append_right _ (mem_pinsAt hb e)))).1,fun b hb=>?_,w7⟩
   obtain ⟨o,e,d⟩:=T.obj _ _ st5 b hb
   exact (I7.pin (b,o) (List.mem_append_right _ (List.mem_append_right _ (mem_pinsAt hb e)))).2.1
  cases f with
  | next=>obtain ⟨σ7,H7,I7,n7⟩:=q7;exact again I7 n7
  | cont=>obtain ⟨σ7,H7,I7,n7⟩:=q7;exact again I7 n7
  | brk=>obtain ⟨σ7,H7,I7,q7⟩:=q7;exact ⟨σ7,H7,I7.unpinned,q7⟩
  | ret v=>obtain ⟨x7,σ7,H7,I7,r7,q7⟩:=q7;exact ⟨x7,σ7,H7,I7.unpinned,r7,q7⟩
end
theorem for_list {K:PySem.W.Frag} {a:Addr} {xs:List V} {g:TG} {tb:TS} {D:Ends} {σ:St} {H:Hp} (Pv:Nat→St→Hp→Prop) (h0:Pv 0 σ H) (hl : ∀ i σ H,i≤xs.length→Pv i σ H→SqL K H a xs)
  (hs : ∀ i x σ H,xs[i]? = some x→Pv i σ H→g x σ H fun σ2 H2=>tb { D with nx:=Pv (i+1),ct:=Pv (i+1),bk:=D.nx } σ2 H2) (hd : ∀ σ H,Pv xs.length σ H→D.nx σ H) :
  ∃ W:Nat→Nat→St→Hp→Prop,(∃ m,W 0 m σ H) ∧ ∀ i m σ H,W i m σ H →
   ((Itl K a).stop i H∧D.nx σ H)∨((Itl K a).go i H ∧ ∃ N:St→Hp→Prop,(∀ σ' H',N σ' H' → ∃ m',m' < m∧W (i+1) m' σ' H') ∧ ∀ x H',(Itl K a).yld i H x H'→g x σ H' fun σ2 H2=>tb { D with nx:=N,ct:=N,bk:=D.nx } σ2 H2):=by
 refine ⟨fun i m σ H=>m=xs.length - i∧i≤xs.length∧Pv i σ H,⟨xs.length,by simp,Nat.zero_le _,h0⟩,?_⟩
 rintro i m σ H ⟨rfl,hi,p⟩
 have q:=hl i σ H hi p
 by_cases hlt:i < xs.length
 ·refine .inr ⟨⟨xs,xs[i],q,by simp [hlt]⟩,Pv (i+1),fun σ' H' p'=>⟨xs.length - (i+1),by omega,rfl,hlt,p'⟩,fun x H' y=>?_⟩
  obtain ⟨e,y⟩:=y
  subst e
  exact hs i x σ _ (y xs q) p
 ·have e:i=xs.length:=by omega
  subst e
  exact .inl ⟨⟨xs,q,Nat.le_refl _⟩,hd σ H p⟩
theorem for_tup {K:PySem.W.Frag} {a:Addr} {xs:List V} {g:TG} {tb:TS} {D:Ends} {σ:St} {H:Hp} (Pv:Nat→St→Hp→Prop) (h0:Pv 0 σ H) (hl : ∀ i σ H,i≤xs.length→Pv i σ H→SqT K H a xs)
  (hs : ∀ i x σ H,xs[i]? = some x→Pv i σ H→g x σ H fun σ2 H2=>tb { D with nx:=Pv (i+1),ct:=Pv (i+1),bk:=D.nx } σ2 H2) (hd : ∀ σ H,Pv xs.length σ H→D.nx σ H) :
  ∃ W:Nat→Nat→St→Hp→Prop,(∃ m,W 0 m σ H) ∧ ∀ i m σ H,W i m σ H →
   ((Itt K a).stop i H∧D.nx σ H)∨((Itt K a).go i H ∧ ∃ N:St→Hp→Prop,(∀ σ' H',N σ' H' → ∃ m',m' < m∧W (i+1) m' σ' H') ∧ ∀ x H',(Itt K a).yld i H x H'→g x σ H' fun σ2 H2=>tb { D with nx:=N,ct:=N,bk:=D.nx } σ2 H2):=by
 refine ⟨fun i m σ H=>m=xs.length - i∧i≤xs.length∧Pv i σ H,⟨xs.length,by simp,Nat.zero_le _,h0⟩,?_⟩
 rintro i m σ H ⟨rfl,hi,p⟩
 have q:=hl i σ H hi p
 by_cases hlt:i < xs.length
 ·refine .inr ⟨⟨xs,xs[i],q,by simp [hlt]⟩,Pv (i+1),fun σ' H' p'=>⟨xs.length - (i+1),by omega,rfl,hlt,p'⟩,fun x H' y=>?_⟩
  obtain ⟨e,y⟩:=y
  subst e
  exact hs i x σ _ (y xs q) p
 ·have e:i=xs.length:=by omega
  subst e
  exact .inl ⟨⟨xs,q,Nat.le_refl _⟩,hd σ H p⟩
theorem for_range {lo:Int} {n:Nat} {g:TG} {tb:TS} {D:Ends} {σ:St} {H:Hp} (Pv:Nat→St→Hp→Prop) (h0:Pv 0 σ H)
  (hs : ∀ i σ H,i < n→Pv i σ H→g (.int (lo+i)) σ H fun σ2 H2=>tb { D with nx:=Pv (i+1),ct:=Pv (i+1),bk:=D.nx } σ2 H2) (hd : ∀ σ H,Pv n σ H→D.nx σ H) :
  ∃ W:Nat→Nat→St→Hp→Prop,(∃ m,W 0 m σ H) ∧ ∀ i m σ H,W i m σ H →
   ((Itr lo n).stop i H∧D.nx σ H)∨((Itr lo n).go i H ∧ ∃ N:St→Hp→Prop,(∀ σ' H',N σ' H' → ∃ m',m' < m∧W (i+1) m' σ' H') ∧ ∀ x H',(Itr lo n).yld i H x H'→g x σ H' fun σ2 H2=>tb { D with nx:=N,ct:=N,bk:=D.nx } σ2 H2):=by
 refine ⟨fun i m σ H=>m=n - i∧i≤n∧Pv i σ H,⟨n,by simp,Nat.zero_le _,h0⟩,?_⟩
 rintro i m σ H ⟨rfl,hi,p⟩
 by_cases hlt:i < n
 ·refine .inr ⟨hlt,Pv (i+1),fun σ' H' p'=>⟨n - (i+1),by omega,rfl,hlt,p'⟩,fun x H' y=>?_⟩
  obtain ⟨e,y⟩:=y
  subst e y
  exact hs i σ _ hlt p
 ·have e:i=n:=by omega
  subst e
  exact .inl ⟨Nat.le_refl _,hd σ H p⟩
abbrev R2:=V→V→Hp→VK→Prop
def OpR (X:Cx) (f:Value→Value→Sem Value) (r:R2):Prop:=
 ∀ (pins:List (Addr × Obj)) (s:Shared) (σ:St) (H:Hp) (x y:V) (v u:Value) (Q:VK),Inv X pins σ H s→RelV x v→RelV y u→r x y H Q →
  wpAny (model X.prog X.w) X.A (f v u) (EP X pins σ Q) X.xe s
def UnR (X:Cx) (f:Value→Sem Value) (r:V→Hp→VK→Prop):Prop:=
 ∀ (pins:List (Addr × Obj)) (s:Shared) (σ:St) (H:Hp) (x:V) (v:Value) (Q:VK),Inv X pins σ H s→RelV x v→r x H Q →
  wpAny (model X.prog X.w) X.A (f v) (EP X pins σ Q) X.xe s
def CallR (X:Cx) (f:Value) (r:List V→Hp→VK→Prop):Prop:=
 ∀ (pins:List (Addr × Obj)) (s:Shared) (σ:St) (H:Hp) (xs:List V) (us:List Value) (Q:VK),Inv X pins σ H s→Vals xs us→r xs H Q →
  wpAny (model X.prog X.w) X.A (call f us) (EP X pins σ Q) X.xe s
def tOp (r:R2) (ta tb:TE):TE:=fun σ H Q=>ta σ H fun x H1=>tb σ H1 fun y H2=>r x y H2 Q
def tUn (r:V→Hp→VK→Prop) (ta:TE):TE:=fun σ H Q=>ta σ H fun x H1=>r x H1 Q
def rI (C:Int→Int→Prop) (g:Int→Int→V):R2:=fun x y H Q=>∃ i j,x = .int i∧y = .int j∧C i j∧Q (g i j) H
def rI0 (g:Int→Int→V):R2:=fun x y H Q=>∃ i j,x = .int i∧y = .int j∧Q (g i j) H
def rU (g:Int→V):V→Hp→VK→Prop:=fun x H Q=>∃ i,x = .int i∧Q (g i) H
section
variable {X : Cx} {a b c : Expr} {ta tb tc : TE} {pos : Pos}
theorem binT (ha:PE X a ta) (hb:PE X b tb) {pins:List (Addr × Obj)} {s:Shared} {σ:St} {H:Hp} {R:V→V→Hp→Prop} (I:Inv X pins σ H s)
  (h:ta σ H fun x H1=>tb σ H1 fun y H2=>R x y H2) {Q:Value→Shared→Prop} {f:Value→Value→Sem Value}
  (hf : ∀ v u s2 x y H2,Inv X pins σ H2 s2→RelV x v→RelV y u→R x y H2→wpAny (model X.prog X.w) X.A (f v u) Q X.xe s2) :
  wpAny (model X.prog X.w) X.A (eval a X.env) (fun v s₁=>wpAny (model X.prog X.w) X.A (eval b X.env) (fun u s₂=>wpAny (model X.prog X.w) X.A (f v u) Q X.xe s₂) X.xe s₁) X.xe s:=by
 refine thn (ha pins s σ H _ I h) fun v s1 ⟨x,H1,I1,r1,q1⟩=>?_
 refine thn (hb pins s1 σ H1 _ I1 q1) fun u s2 ⟨y,H2,I2,r2,q2⟩=>?_
 exact hf v u s2 x y H2 I2 r1 r2 q2
theorem pe_op {op:Operator} {r:R2} (ho:OpR X (binaryOp op) r) (ha:PE X a ta) (hb:PE X b tb):PE X (.BinOp a op b pos) (tOp r ta tb):=by
 intro pins s σ H Q I h
 exact wpAny_BinOp (binT ha hb I h fun v u s2 x y H2 I2 rx ry q=>ho pins s2 σ H2 x y v u Q I2 rx ry q)
theorem pe_un {op:UnaryOp} {r:V→Hp→VK→Prop} (ho:UnR X (unaryOp op) r) (ha:PE X a ta):PE X (.UnaryOp op a pos) (tUn r ta):=by
 intro pins s σ H Q I h
 exact UnaryOp_ (thn (ha pins s σ H _ I h) fun v s1 ⟨x,H1,I1,r1,q1⟩=>ho pins s1 σ H1 x v Q I1 r1 q1)
theorem opI {f:Value→Value→Sem Value} {C:Int→Int→Prop} {g:Int→Int→Int}
  (rule : ∀ (i j:Int) (t u:Tok) (s:Shared) (Q:Value→Shared→Prop) (E:Value→Shared→Prop),C i j→Q (.int (g i j) s.toks) { s with toks:=s.toks+1 }→wpAny (model X.prog X.w) X.A (f (.int i t) (.int j u)) Q E s) :
  OpR X f (rI C fun i j=>.int (g i j)):=by
 intro pins s σ H x y v u Q I rx ry h
 obtain ⟨i,j,rfl,rfl,hc,q⟩:=h
 obtain ⟨t,rfl⟩:=rx
 obtain ⟨t',rfl⟩:=ry
 exact rule i j t t' s _ _ hc ⟨.int (g i j),H,I.tok _,⟨_,rfl⟩,q⟩
theorem opI0 {f:Value→Value→Sem Value} {g:Int→Int→Int}
  (rule : ∀ (i j:Int) (t u:Tok) (s:Shared) (Q:Value→Shared→Prop) (E:Value→Shared→Prop),Q (.int (g i j) s.toks) { s with toks:=s.toks+1 }→wpAny (model X.prog X.w) X.A (f (.int i t) (.int j u)) Q E s) :
  OpR X f (rI0 fun i j=>.int (g i j)):=by
 intro pins s σ H x y v u Q I rx ry h
 obtain ⟨i,j,rfl,rfl,q⟩:=h
 obtain ⟨t,rfl⟩:=rx
 obtain ⟨t',rfl⟩:=ry
 exact rule i j t t' s _ _ ⟨.int (g i j),H,I.tok _,⟨_,rfl⟩,q⟩
theorem opB0 {f:Value→Value→Sem Value} {g:Int→Int→Bool}
  (rule : ∀ (i j:Int) (t u:Tok) (s:Shared) (Q:Value→Shared→Prop) (E:Value→Shared→Prop),Q (.bool (g i j)) s→wpAny (model X.prog X.w) X.A (f (.int i t) (.int j u)) Q E s) :
  OpR X f (rI0 fun i j=>.bl (g i j)):=by
 intro pins s σ H x y v u Q I rx ry h
 obtain ⟨i,j,rfl,rfl,q⟩:=h
 obtain ⟨t,rfl⟩:=rx
 obtain ⟨t',rfl⟩:=ry
 exact rule i j t t' s _ _ ⟨.bl (g i j),H,I,rfl,q⟩
def CPow (i j:Int):Prop:=0≤j∧j≤1000000∧i.natAbs < 2 ^ 64
def CMul (i j:Int):Prop:=(-(2 ^ 64) < i∧i < 2 ^ 64)∨(-(2 ^ 64) < j∧j < 2 ^ 64)
theorem CMul.ok {i j:Int} (h:CMul i j):IntMulOk i j:=by
 rcases h with ⟨h1,h2⟩ | ⟨h1,h2⟩
 ·exact .of_left (intBits_le_64 h1 h2)
 ·exact .of_right (intBits_le_64 h1 h2)
theorem two_pow_nn (k:Nat):(0:Int)≤2 ^ k:=by
 rw [two_pow_cast]
 exact Int.natCast_nonneg _
theorem op_add:OpR X (binaryOp .Add) (rI0 fun i j=>.int (i+j)):=opI0 fun _ _ _ _ _ _ _ q=>add_int q
theorem op_sub:OpR X (binaryOp .Sub) (rI0 fun i j=>.int (i - j)):=opI0 fun _ _ _ _ _ _ _ q=>sub_int q
theorem op_mod:OpR X (binaryOp .Mod) (rI (fun _ j=>0 < j) fun i j=>.int (i % j)):=opI fun i j _ _ _ _ _ hc q=>by
 have h1:(0:Int) < j:=hc
 exact mod_int' (by omega) (by rw [Int.fmod_eq_emod_of_nonneg i (by omega)];exact q)
theorem op_pow:OpR X (binaryOp .Pow) (rI CPow fun i j=>.int (i ^ j.toNat)):=opI fun _ _ _ _ _ _ _ hc q=>pow_int_small hc.1 hc.2.1 hc.2.2 q
theorem op_shr:OpR X (binaryOp .RShift) (rI (fun _ j=>0≤j) fun i j=>.int (i / 2 ^ j.toNat)):=opI fun i j _ _ _ _ _ hc q =>
 rshift_int hc (by rw [Int.fdiv_eq_ediv_of_nonneg i (two_pow_nn _)];exact q)
theorem unI {f:Value→Sem Value} {g:Int→Int}
  (rule : ∀ (i:Int) (t:Tok) (s:Shared) (Q:Value→Shared→Prop) (E:Value→Shared→Prop),Q (.int (g i) s.toks) { s with toks:=s.toks+1 }→wpAny (model X.prog X.w) X.A (f (.int i t)) Q E s) :
  UnR X f (rU fun i=>.int (g i)):=by
 intro pins s σ H x v Q I rx h
 obtain ⟨i,rfl,q⟩:=h
 obtain ⟨t,rfl⟩:=rx
 exact rule i t s _ _ ⟨.int (g i),H,I.tok _,⟨_,rfl⟩,q⟩
theorem un_neg:UnR X (unaryOp .USub) (rU fun i=>.int (-i)):=unI fun _ _ _ _ _ q=>neg_int q
end
def scal:V→V→Bool
 | .non,.non=>true | .non,.int _=>true | .int _,.non=>true | .non,.bl _=>true | .bl _,.non=>true | .non,.str _=>true | .str _,.non=>true
 | .int _,.int _=>true | .bl _,.bl _=>true | .str _,.str _=>true | .byt _,.byt _=>true
 | .int _,.str _=>true | .str _,.int _=>true | .bl _,.str _=>true | .str _,.bl _=>true
 | _,_=>false
def rEq:R2:=fun x y H Q=>scal x y=true∧Q (.bl (decide (x=y))) H
def rNe:R2:=fun x y H Q=>scal x y=true∧Q (.bl (!decide (x=y))) H
theorem dec_int {i j:Int}:decide (V.int i=V.int j)=(i == j):=by
 rw [Bool.eq_iff_iff]
 simp
theorem dec_bl {i j:Bool}:decide (V.bl i=V.bl j)=(i == j):=by
 rw [Bool.eq_iff_iff]
 simp
theorem dec_str {i j:Str}:decide (V.str i=V.str j)=(i == j):=by
 rw [Bool.eq_iff_iff]
 simp
theorem dec_byt {i j:Array UInt8}:decide (V.byt i=V.byt j)=(i.toList == j.toList):=by
 rw [Bool.eq_iff_iff]
 cases i
 cases j
 simp
section
variable {X : Cx} {a b c : Expr} {ta tb tc : TE} {pos : Pos}
theorem fin_bl {pins:List (Addr × Obj)} {σ:St} {H:Hp} {s:Shared} {Q:VK} {k k':Bool} (I:Inv X pins σ H s) (q:Q (.bl k) H) (e:k=k'):EP X pins σ Q (.bool k') s:=by
 subst e
 exact ⟨.bl k,H,I,rfl,q⟩
theorem op_eq : OpR X (compareOp .Eq) rEq := by
  intro pins s σ H x y v u Q I rx ry h
  obtain ⟨hs, q⟩ := h
  cases x with
  | non =>
    cases rx
    cases y with
    | non => cases ry; exact PySem.EqNone.eq_none_none (fin_bl I q (by simp))
    | bl j => cases ry; exact PySem.EqNone.eq_none_bool (fin_bl I q (by simp))
    | int j => obtain ⟨t', rfl⟩ := ry; exact PySem.EqNone.eq_none_int (fin_bl I q (by simp))
    | str j => obtain ⟨t', rfl⟩ := ry; exact PySem.EqNone.eq_none_str (fin_bl I q (by simp))
    | _ => exact absurd (show false = true from hs) Bool.false_ne_true
  | bl i =>
    cases rx
    cases y with
    | non => cases ry; exact PySem.EqNone.eq_bool_none (fin_bl I q (by simp))
    | bl j => cases ry; exact eq_bool (fin_bl I q dec_bl)
    | str j => obtain ⟨t', rfl⟩ := ry; exact PySem.EqMixed.eq_bool_str (fin_bl I q (by simp))
    | _ => exact absurd (show false = true from hs) Bool.false_ne_true
  | int i =>
    obtain ⟨t, rfl⟩ := rx
    cases y with
    | non => cases ry; exact PySem.EqNone.eq_int_none (fin_bl I q (by simp))
    | int j => obtain ⟨t', rfl⟩ := ry; exact eq_int (fin_bl I q dec_int)
    | str j => obtain ⟨t', rfl⟩ := ry; exact PySem.EqMixed.eq_int_str (fin_bl I q (by simp))
    | _ => exact absurd (show false = true from hs) Bool.false_ne_true
  | str i =>
    obtain ⟨t, rfl⟩ := rx
    cases y with
    | non => cases ry; exact PySem.EqNone.eq_str_none (fin_bl I q (by simp))
    | bl j => cases ry; exact PySem.EqMixed.eq_str_bool (fin_bl I q (by simp))
    | int j => obtain ⟨t', rfl⟩ := ry; exact PySem.EqMixed.eq_str_int (fin_bl I q (by simp))
    | str j => obtain ⟨t', rfl⟩ := ry; exact eq_str (fin_bl I q dec_str)
    | _ => exact absurd (show false = true from hs) Bool.false_ne_true
  | byt i =>
    obtain ⟨t, rfl⟩ := rx
    cases y with
    | byt j => obtain ⟨t', rfl⟩ := ry; exact W.eq_bytes (fin_bl I q dec_byt)
    | _ => exact absurd (show false = true from hs) Bool.false_ne_true
  | _ => cases y <;> exact absurd (show false = true from hs) Bool.false_ne_true
theorem op_ne : OpR X (compareOp .NotEq) rNe := by
  intro pins s σ H x y v u Q I rx ry h
  obtain ⟨hs, q⟩ := h
  cases x with
  | non =>
    cases rx
    cases y with
    | non => cases ry; exact PySem.EqNone.ne_none_none (fin_bl I q (by simp))
    | bl j => cases ry; exact PySem.EqNone.ne_none_bool (fin_bl I q (by simp))
    | int j => obtain ⟨t', rfl⟩ := ry; exact PySem.EqNone.ne_none_int (fin_bl I q (by simp))
    | str j => obtain ⟨t', rfl⟩ := ry; exact PySem.EqNone.ne_none_str (fin_bl I q (by simp))
    | _ => exact absurd (show false = true from hs) Bool.false_ne_true
  | bl i =>
    cases rx
    cases y with
    | non => cases ry; exact PySem.EqNone.ne_bool_none (fin_bl I q (by simp))
    | bl j => cases ry; exact ne_bool (fin_bl I q (congrArg not dec_bl))
    | str j => obtain ⟨t', rfl⟩ := ry; exact PySem.EqMixed.ne_bool_str (fin_bl I q (by simp))
    | _ => exact absurd (show false = true from hs) Bool.false_ne_true
  | int i =>
    obtain ⟨t, rfl⟩ := rx
    cases y with
    | non => cases ry; exact PySem.EqNone.ne_int_none (fin_bl I q (by simp))
    | int j => obtain ⟨t', rfl⟩ := ry; exact ne_int (fin_bl I q (congrArg not dec_int))
    | str j => obtain ⟨t', rfl⟩ := ry; exact PySem.EqMixed.ne_int_str (fin_bl I q (by simp))
    | _ => exact absurd (show false = true from hs) Bool.false_ne_true
  | str i =>
    obtain ⟨t, rfl⟩ := rx
    cases y with
    | non => cases ry; exact PySem.EqNone.ne_str_none (fin_bl I q (by simp))
    | bl j => cases ry; exact PySem.EqMixed.ne_str_bool (fin_bl I q (by simp))
    | int j => obtain ⟨t', rfl⟩ := ry; exact PySem.EqMixed.ne_str_int (fin_bl I q (by simp))
    | str j => obtain ⟨t', rfl⟩ := ry; exact ne_str (fin_bl I q (congrArg not dec_str))
    | _ => exact absurd (show false = true from hs) Bool.false_ne_true
  | byt i =>
    obtain ⟨t, rfl⟩ := rx
    cases y with
    | byt j => obtain ⟨t', rfl⟩ := ry; exact W.ne_bytes (fin_bl I q (congrArg not dec_byt))
    | _ => exact absurd (show false = true from hs) Bool.false_ne_true
  | _ => cases y <;> exact absurd (show false = true from hs) Bool.false_ne_true
theorem op_lt:OpR X (compareOp .Lt) (rI0 fun i j=>.bl (decide (i < j))):=opB0 fun _ _ _ _ _ _ _ q=>lt_int q
theorem op_le:OpR X (compareOp .LtE) (rI0 fun i j=>.bl (decide (i≤j))):=opB0 fun _ _ _ _ _ _ _ q=>le_int q
theorem op_gt:OpR X (compareOp .Gt) (rI0 fun i j=>.bl (decide (j < i))):=opB0 fun _ _ _ _ _ _ _ q=>gt_int q
theorem op_ge:OpR X (compareOp .GtE) (rI0 fun i j=>.bl (decide (j≤i))):=opB0 fun _ _ _ _ _ _ _ q=>ge_int q
theorem op_lt_str:OpR X (compareOp .Lt) (fun x y H Q=>∃ i j,x = .str i∧y = .str j∧Q (.bl (decide (i.cps.toList < j.cps.toList))) H):=by
 intro pins s σ H x y v u Q I rx ry h
 obtain ⟨i,j,rfl,rfl,q⟩:=h
 obtain ⟨t,rfl⟩:=rx
 obtain ⟨t',rfl⟩:=ry
 exact lt_str (fin_bl I q rfl)
theorem op_in_str:OpR X (compareOp .In) (fun x y H Q=>∃ i j,x = .str i∧y = .str j∧Q (.bl (!(Builtin.Str.occurrences j i 0 j.length 1).isEmpty)) H):=by
 intro pins s σ H x y v u Q I rx ry h
 obtain ⟨i,j,rfl,rfl,q⟩:=h
 obtain ⟨t,rfl⟩:=rx
 obtain ⟨t',rfl⟩:=ry
 exact in_str (fin_bl I q rfl)
theorem op_notN:OpR X (compareOp .IsNot) (fun x y H Q=>y = .non∧Q (.bl (!decide (x = .non))) H):=by
 intro pins s σ H x y v u Q I rx ry h
 obtain ⟨rfl,q⟩:=h
 cases ry
 refine isnot_none_gen (fin_bl I q ?_)
 cases x <;> first
  | (cases rx;rfl)
  | (obtain ⟨t,rfl⟩:=rx;rfl)
theorem nomark (b:Expr) {op:CmpOp} (h:op ≠ .In:=by decide) (h2:op ≠ .NotIn:=by decide):behindInMarks op b=false:=by
 have e1:(op == CmpOp.In)=false:=by cases op <;> first | rfl | exact absurd rfl h
 have e2:(op == CmpOp.NotIn)=false:=by cases op <;> first | rfl | exact absurd rfl h2
 cases b <;> simp [behindInMarks,e1,e2]
theorem pe_cmpR {op:CmpOp} {r:R2} (ho:OpR X (compareOp op) r) (ha:PE X a ta) (hb:PE X b tb) (hm:behindInMarks op b=false):PE X (.Compare a [op] [b] pos) (tOp r ta tb):=by
 intro pins s σ H Q I h
 exact wpAny_Compare1 (binT ha hb I h fun v u s2 x y H2 I2 rx ry q=>ho pins s2 σ H2 x y v u Q I2 rx ry q) hm
def tTest (t:TE):TT:=fun σ H Q=>t σ H fun x H'=>∃ k,x = .bl k∧Q k H'
theorem pt_cmpR {op:CmpOp} {r:R2} (ho:OpR X (compareOp op) r) (ha:PE X a ta) (hb:PE X b tb) (hm:behindInMarks op b=false):PT X (.Compare a [op] [b] pos) (tTest (tOp r ta tb)):=by
 intro pins s σ H Q I h
 refine wpAny_isTrue_Compare1 (thn (ha pins s σ H _ I h) fun v s1 ⟨x,H1,I1,r1,q1⟩=>thn (hb pins s1 σ H1 _ I1 q1) fun u s2 ⟨y,H2,I2,r2,q2⟩ =>
  thn (ho pins s2 σ H2 x y v u _ I2 r1 r2 q2) fun c s3 ⟨z,H3,I3,r3,k,e,q3⟩=>?_) hm
 subst e
 cases r3
 exact wpAny_truthy_bool ⟨H3,I3,q3⟩
def tChain (r r':R2) (ta tb tc:TE):TE:=fun σ H Q=>ta σ H fun x H1=>tb σ H1 fun y H2=>r x y H2 fun z H3=>∃ k,z = .bl k ∧
 (if k=true then tc σ H3 fun w' H4=>r' y w' H4 Q else Q (.bl false) H3)
theorem pe_chain {op op':CmpOp} {r r':R2} (ho:OpR X (compareOp op) r) (ho':OpR X (compareOp op') r') (ha:PE X a ta) (hb:PE X b tb) (hc:PE X c tc)
  (hm:lastMarks [op,op'] [b,c]=false:=by with_unfolding_all rfl):PE X (.Compare a [op,op'] [b,c] pos) (tChain r r' ta tb tc):=by
 intro pins s σ H Q I h
 refine Compare_chain (thn (ha pins s σ H _ I h) fun v s1 ⟨x,H1,I1,r1,q1⟩=>chain_link (thn (hb pins s1 σ H1 _ I1 q1) fun u s2 ⟨y,H2,I2,r2,q2⟩ =>
  thn (ho pins s2 σ H2 x y v u _ I2 r1 r2 q2) fun d s3 ⟨z,H3,I3,r3,k,e,q3⟩=>?_)) hm
 subst e
 cases r3
 refine wpAny_truthy_bool ?_
 cases k with
 | false=>exact ite_ff ⟨.bl false,H3,I3,rfl,q3⟩
 | true=>exact ite_tt (chain_last (thn (hc pins s3 σ H3 _ I3 q3) fun w' s4 ⟨z',H4,I4,r4,q4⟩=>ho' pins s4 σ H4 y z' u w' Q I4 r2 r4 q4))
theorem pt_chain {op op' : CmpOp} {r r' : R2} (ho : OpR X (compareOp op) r) (ho' : OpR X (compareOp op') r') (ha : PE X a ta) (hb : PE X b tb) (hc : PE X c tc)
    (hm : lastMarks [op, op'] [b, c] = false := by with_unfolding_all rfl) : PT X (.Compare a [op, op'] [b, c] pos) (tTest (tChain r r' ta tb tc)) := by
  intro pins s σ H Q I h
  refine isTrue_chain (thn (ha pins s σ H _ I h) fun v s1 ⟨x, H1, I1, r1, q1⟩ => test_link (thn (hb pins s1 σ H1 _ I1 q1) fun u s2 ⟨y, H2, I2, r2, q2⟩ =>
    thn (ho pins s2 σ H2 x y v u _ I2 r1 r2 q2) fun d s3 ⟨z, H3, I3, r3, k, e, q3⟩ => ?_)) hm
  subst e
  cases r3
  refine wpAny_truthy_bool ?_
  cases k with
  | false =>
    obtain ⟨k', e', q'⟩ := q3
    cases e'
    exact ite_ff ⟨H3, I3, q'⟩
  | true =>
    refine ite_tt (test_last (thn (hc pins s3 σ H3 _ I3 q3) fun w' s4 ⟨z', H4, I4, r4, q4⟩ => thn (ho' pins s4 σ H4 y z' u w' _ I4 r2 r4 q4) fun d' s5 ⟨z2, H5, I5, r5, k2, e2, q5⟩ => ?_))
    subst e2
    cases r5
    exact wpAny_truthy_bool ⟨H5, I5, q5⟩
theorem line63:(sizeLine:Nat) < 2 ^ 63:=by rw [sizeLine_eq];decide
theorem op_add_str:OpR X (binaryOp .Add) (fun x y H Q=>∃ i j,x = .str i∧y = .str j∧i.length+j.length≤sizeLine∧Q (.str (i++j)) H):=by
 intro pins s σ H x y v u Q I rx ry h
 obtain ⟨i,j,rfl,rfl,hz,q⟩:=h
 obtain ⟨t,rfl⟩:=rx
 obtain ⟨t',rfl⟩:=ry
 exact add_str (fun t' tk=>⟨.str (i++j),H,I.tok _,⟨_,rfl⟩,q⟩) hz
theorem vals1 {x:V} {us:List Value} (r:Vals [x] us) : ∃ u,us=[u]∧RelV x u:=by
 cases r with
 | cons r1 r2=>cases r2;exact ⟨_,rfl,r1⟩
theorem vals2 {x y : V} {us : List Value} (r : Vals [x, y] us) : ∃ u w', us = [u, w'] ∧ RelV x u ∧ RelV y w' := by
  cases r with
  | cons r1 r2 =>
    cases r2 with
    | cons r3 r4 => cases r4; exact ⟨_, _, rfl, r1, r3⟩
theorem call_abs:CallR X (.builtin "abs") (fun xs H Q=>∃ i,xs=[.int i]∧Q (.int (if i < 0 then -i else i)) H):=by
 intro pins s σ H xs us Q I r h
 obtain ⟨i,rfl,q⟩:=h
 obtain ⟨u,rfl,t,rfl⟩:=vals1 r
 exact call_abs_int fun u tk=>⟨.int (if i < 0 then -i else i),H,I.tok _,⟨_,rfl⟩,q⟩
theorem call_max2 (hc:X.calm=true):CallR X (.builtin "max") (fun xs H Q=>∃ i j,xs=[.int i,.int j]∧Q (.int (if j > i then j else i)) H):=by
 intro pins s σ H xs us Q I r h
 obtain ⟨i,j,rfl,q⟩:=h
 obtain ⟨u,w',rfl,⟨t,rfl⟩,⟨t',rfl⟩⟩:=vals2 r
 refine max_two_ints (I.ok.hd hc) fun h' tk k=>⟨_,H,I.kept k,?_,q⟩
 by_cases hj:j > i
 ·rw [if_pos hj,if_pos hj];exact ⟨_,rfl⟩
 ·rw [if_neg hj,if_neg hj];exact ⟨_,rfl⟩
theorem call_min2 (hc:X.calm=true):CallR X (.builtin "min") (fun xs H Q=>∃ i j,xs=[.int i,.int j]∧Q (.int (if j < i then j else i)) H):=by
 intro pins s σ H xs us Q I r h
 obtain ⟨i,j,rfl,q⟩:=h
 obtain ⟨u,w',rfl,⟨t,rfl⟩,⟨t',rfl⟩⟩:=vals2 r
 refine min_two_ints (I.ok.hd hc) fun h' tk k=>⟨_,H,I.kept k,?_,q⟩
 by_cases hj:j < i
 ·rw [if_pos hj,if_pos hj];exact ⟨_,rfl⟩
 ·rw [if_neg hj,if_neg hj];exact ⟨_,rfl⟩
theorem call_int1:CallR X (.type "int") (fun xs H Q=>(∃ i,xs=[.int i]∧Q (.int i) H) ∨ ∃ k,xs=[.bl k]∧Q (.int (if k then 1 else 0)) H):=by
 intro pins s σ H xs us Q I r h
 rcases h with ⟨i,rfl,q⟩ | ⟨k,rfl,q⟩
 ·obtain ⟨u,rfl,t,rfl⟩:=vals1 r
  exact call_int_int ⟨.int i,H,I,⟨_,rfl⟩,q⟩
 ·obtain ⟨u,rfl,r1⟩:=vals1 r
  cases r1
  exact call_int_bool ⟨.int (if k then 1 else 0),H,I.tok _,⟨_,rfl⟩,q⟩
theorem call_str_int:CallR X (.type "str") (fun xs H Q=>∃ i,xs=[.int i]∧i.natAbs.log2 < 1920∧Q (.str (toString i)) H):=by
 intro pins s σ H xs us Q I r h
 obtain ⟨i,rfl,hz,q⟩:=h
 obtain ⟨u,rfl,t,rfl⟩:=vals1 r
 exact PySem.P.str_of_int hz ⟨.str _,H,I.tok _,⟨_,rfl⟩,q⟩
end
structure ObjM (h:Heap) (x dx C:Addr) (mA:Str→Option Value):Prop where
 obj:h.get? x=some (W.instObj C dx)
 ns:h.Ns1 dx mA
 ne:dx≠x
theorem lookIn_ns {h:Heap} {dx:Addr} {mA:Str→Option Value} (n:h.Ns1 dx mA) : ∃ od,h.get? dx=some od ∧ ∀ name,W.lookIn name od=some (mA name):=by
 obtain ⟨o,es,ep,ho,hd,hk,_,hm⟩:=n
 refine ⟨o,ho,fun name=>?_⟩
 have e:=hm name
 unfold nsFind findBy at e
 rw [← Array.find?_toList] at e
 unfold W.lookIn
 rw [hd]
 dsimp only
 split
 ·rename_i y q
  rw [q] at e
  exact congrArg some e
 ·rename_i q
  rw [q] at e
  have a:es.toList.any (·.refKey)=false:=by
   rw [List.any_eq_false]
   intro y hy
   obtain ⟨z,t,hkey⟩:=hk y (Array.mem_toList_iff.mp hy)
   simp [DictEntry.refKey,hkey]
  have a' : ¬ es.toList.any (·.refKey)=true:=by rw [a];exact Bool.false_ne_true
  rw [if_neg a']
  exact congrArg some e
theorem ObjM.look {h:Heap} {x dx C:Addr} {mA:Str→Option Value} (I:ObjM h x dx C mA) : ∃ od,W.InstAt h x (W.instObj C dx) C (some od) ∧ ∀ name,W.lookIn name od=some (mA name):=
 let ⟨od,ho,hl⟩:=lookIn_ns I.ns
 ⟨od,⟨I.obj,rfl,rfl,ho⟩,hl⟩
section
variable {prog : Program} {w : World} {A : Around} {E : Value → Shared → Prop} {s : Shared} {K : W.Frag} {x dx C f : Addr} {mA : Str → Option Value} {name : Str} {v : Value}
theorem get_map {expr:Bool} {Q:Value→Shared→Prop} (X:K.In s.heap) (I:ObjM s.heap x dx C mA) (hg:W.plainGet K C name=true) (hh:W.hasDictIn K C=true)
  (ha:W.findIn K (.ref C) name=some none) (hv:mA name=some v) (hv':W.handedIn v=true) (h:Q v { s with toks:=s.toks+1 }) :
  wpAny (model prog w) A (getAttr (.ref x) name expr) Q E s:=by
 obtain ⟨od,J,hl⟩:=I.look
 exact W.get_value X J (W.plainGet_of hg).1 (W.findObj_own hh ha rfl (by rw [hl,hv])) hv' h
theorem get_meth {pl:Sem Bool} {Q:Value × List Value→Shared→Prop} (X:K.In s.heap) (I:ObjM s.heap x dx C mA) (hg:W.plainGet K C name=true)
  (hf:W.findIn K (.ref C) name=some (some (.ref f))) (ht:W.isFn K (.ref f)=true) (hv:mA name=none) (h:Q (.ref f,[.ref x]) s) :
  wpAny (model prog w) A (getMethod (.ref x) name pl) Q E s:=by
 obtain ⟨od,J,hl⟩:=I.look
 exact W.method_fn X J (W.plainGet_of hg).1 (W.plainGet_of hg).2 hf (beq_iff_eq.mp ht) (by show (W.lookIn name od).map (·.isSome)=some false;rw [hl,hv];rfl) h
theorem set_map {ns:List Str} {Q:Unit→Shared→Prop} (X:K.In s.heap) (I:ObjM s.heap x dx C mA)
  (hs:W.findIn K (.ref C) "__setattr__" = some (some (.builtin "object.__setattr__"))) (hp:W.plainOver K C=true) (ht:W.takerIn K C name=some none) (hh:W.hasDictIn K C=true)
  (hw:PySem.Within mA ns) (hsz:ns.length≤sizeLine)
  (h : ∀ h',ObjM h' x dx C (fun y=>if y=name then some v else mA y)→Heap.SameBut dx s.heap h'→Q () { s with heap:=h',toks:=s.toks+2 }) :
  wpAny (model prog w) A (setAttr (.ref x) name v) Q E s:=by
 obtain ⟨od,J,hl⟩:=I.look
 refine W.set_plain X J hs (W.osa_open (s:={ s with toks:=s.toks+1 }) (r:=none) X J hp ht fun b=>?_)
 obtain ⟨cd,hc,hd'⟩:=W.any_some hh
 have hx:s.heap.get? x=some ⟨.ref C,some dx,.plain,#[]⟩:=I.obj
 refine wpAny_bind (wpAny_pure (wpAny_bind (wpAny_bind (wpAny_loadPart hx (wpAny_bind (W.Looks.here (s:={ s with toks:=s.toks+1 }) (W.looks_clsIn X hc) ?_))))))
 rw [hd']
 refine wpAny_pure (a:=some dx) (wpAny_bind (wpAny_pure (wpAny_bind ?_)))
 refine wpAny_nsSet1 (s:={ s with toks:=s.toks+1 }) I.ns fun h' hn2 hs2=>?_
 obtain ⟨oD,esD,epD,hoD,hdD,hcD⟩:=hn2.count (PySem.Within.cons name v hw)
 refine wpAny_bind (wpAny_lookBehind hoD (by rw [hdD];exact pastItsLine_dict (Nat.le_trans hcD (by rw [List.length_cons];omega))) ?_)
 exact wpAny_pure (h _ ⟨(hs2.2 _ (Ne.symm I.ne)).trans I.obj,hn2,I.ne⟩ hs2)
theorem make_map {R:Result→Shared→Prop} {vs:List Value} {kw:List (Str × Value)} (X:K.In s.heap) (hm:W.makesIn K C=true)
  (hi:W.findIn K (.ref C) "__init__" = some (some (.ref f))) (hf:W.typeIn K (.ref f)=some (.type "function"))
  (h:codeAny (model prog w) (A.under (.builtin "type.__call__" ⟨.ref C::vs,kw⟩)) (.call (.ref f) ⟨.ref (s.heap.objs.size+1)::vs,kw⟩) (W.InitBack (s.heap.objs.size+1) R)
   { s with heap:=(s.heap.push W.emptyDict).push (W.instObj C s.heap.objs.size) }) :
  codeAny (model prog w) A (.call (.ref C) ⟨vs,kw⟩) R s:=by
 obtain ⟨hh,g,d,t,os⟩:=s
 exact W.make_core (W.makes_of X hm) (W.looks_findIn X hi) (fun self=>W.bind_fn X self hf) (.inl rfl) h
end
def putF (f:Str) (v:V):List (Str × V)→List (Str × V)
 | []=>[(f,v)]
 | (g,x)::r=>if g=f then (g,v)::r else (g,x)::putF f v r
theorem lookup_putF (f g : Str) (v : V) : ∀ fs : List (Str × V), (putF f v fs).lookup g = if g = f then some v else fs.lookup g
  | [] => by
    show List.lookup g [(f, v)] = _
    by_cases h : g = f
    · have hb : (g == f) = true := beq_iff_eq.mpr h
      simp only [List.lookup, hb, if_pos h]
    · have hb : (g == f) = false := beq_eq_false_iff_ne.mpr h
      simp only [List.lookup, hb, if_neg h]
  | (k, x) :: r => by
    have ih := lookup_putF f g v r
    rw [show putF f v ((k, x) :: r) = (if k = f then (k, v) :: r else (k, x) :: putF f v r) from rfl]
    by_cases hk : k = f
    · rw [if_pos hk]
      by_cases h : g = k
      · have hb : (g == k) = true := beq_iff_eq.mpr h
        simp only [List.lookup, hb, if_pos (h.trans hk)]
      · have hb : (g == k) = false := beq_eq_false_iff_ne.mpr h
        simp only [List.lookup, hb, if_neg (fun e : g = f => h (e.trans hk.symm))]
    · rw [if_neg hk]
      by_cases h : g = k
      · have hb : (g == k) = true := beq_iff_eq.mpr h
        simp only [List.lookup, hb, if_neg (fun e : g = f => hk (h.symm.trans e))]
      · have hb : (g == k) = false := beq_eq_false_iff_ne.mpr h
        simp only [List.lookup, hb]
        exact ih
theorem keys_putF (f : Str) (v : V) : ∀ fs : List (Str × V), f ∈ (putF f v fs).map (·.1) ∧ ∀ g, g ∈ fs.map (·.1) → g ∈ (putF f v fs).map (·.1)
  | [] => ⟨by simp [putF], fun g h => by simp at h⟩
  | (k, x) :: r => by
    obtain ⟨i1, i2⟩ := keys_putF f v r
    rw [show putF f v ((k, x) :: r) = (if k = f then (k, v) :: r else (k, x) :: putF f v r) from rfl]
    by_cases hk : k = f
    · rw [if_pos hk]
      subst hk
      exact ⟨by simp, fun g h => by simpa using h⟩
    · rw [if_neg hk]
      refine ⟨?_, fun g h => ?_⟩
      · rw [List.map_cons]
        exact List.mem_cons_of_mem _ i1
      · rw [List.map_cons] at h ⊢
        rcases List.mem_cons.mp h with e | e
        · exact List.mem_cons.mpr (.inl e)
        · exact List.mem_cons_of_mem _ (i2 g e)
theorem length_putF (f : Str) (v : V) : ∀ fs : List (Str × V), (putF f v fs).length ≤ fs.length + 1
  | [] => by simp [putF]
  | (k, x) :: r => by
    have ih := length_putF f v r
    rw [show putF f v ((k, x) :: r) = (if k = f then (k, v) :: r else (k, x) :: putF f v r) from rfl]
    by_cases hk : k = f
    · rw [if_pos hk, List.length_cons, List.length_cons]; omega
    · rw [if_neg hk, List.length_cons, List.length_cons]; omega
theorem RelO.some_of {v:V} {o:Option Value} (r:RelO (some v) o) : ∃ u,o=some u∧RelV v u:=by
 cases o with
 | none=>exact (show False from r).elim
 | some u=>exact ⟨u,rfl,r⟩
theorem RelO.none_of {o:Option Value} (r:RelO none o):o=none:=by
 cases o with
 | none=>rfl
 | some u=>exact (show False from r).elim
theorem handed_of {v:V} {u:Value} (r:RelV v u):W.handedIn u=true:=by
 cases v with
 | non=>cases (show u=Value.none from r);rfl
 | bl b=>cases (show u=Value.bool b from r);rfl
 | int i=>obtain ⟨t,e⟩:=(show ∃ t,u=Value.int i t from r);cases e;rfl
 | str x=>obtain ⟨t,e⟩:=(show ∃ t,u=Value.str x t from r);cases e;rfl
 | byt b=>obtain ⟨t,e⟩:=(show ∃ t,u=Value.bytes b t from r);cases e;rfl
 | flt b=>obtain ⟨t,e⟩:=(show ∃ t,u=Value.float b t from r);cases e;rfl
 | ref a=>cases (show u=Value.ref a from r);rfl
 | ty n=>cases (show u=Value.type n from r);rfl
section
variable {P : Program} {w : World} {H H' : Hp} {h h' : Heap} {a C dx : Addr} {fs fs' : List (Str × V)}
theorem ins_get (hok:HOk P w H h) (e:H a=some (.ins C dx fs)) : ∃ mA,ObjM h a dx C mA∧(∀ f,RelO (fs.lookup f) (mA f))∧PySem.Within mA (fs.map (·.1))∧fs.length≤1000∧H dx=some (.own a):=by
 obtain ⟨d,z,ne,ob,mA,n,r,q⟩:=(show ObjOk P w H h a (.ins C dx fs) from hok a _ e)
 exact ⟨mA,⟨ob,n,ne⟩,r,q,z,d⟩
end
structure Cls (K:W.Frag) (C:Addr):Prop where
 pg:W.plainGet K C Str.empty=true
 hd:W.hasDictIn K C=true
 po:W.plainOver K C=true
 sa:W.findIn K (.ref C) "__setattr__" = some (some (.builtin "object.__setattr__"))
theorem Cls.get {K:W.Frag} {C:Addr} (c:Cls K C) (f:Str):W.plainGet K C f=true:=c.pg
def NoAttr (K:W.Frag) (C:Addr) (f:Str):Prop:=W.findIn K (.ref C) f=some none
theorem NoAttr.taker {K:W.Frag} {C:Addr} {f:Str} (n:NoAttr K C f):W.takerIn K C f=some none:=by
 unfold W.takerIn
 rw [show W.findIn K (.ref C) f=some none from n]
 rfl
structure Con (K:W.Frag) (C:Addr) (f:Str) (v:V) (u:Value):Prop where
 at_:W.findIn K (.ref C) f=some (some u)
 rel:RelV v u
 get:W.specialIn K u "__get__" = some none
 cp:W.copiedNames.contains f=false
structure Meth (K:W.Frag) (C:Addr) (m:Str) (f:Addr):Prop where
 at_:W.findIn K (.ref C) m=some (some (.ref f))
 fn:W.isFn K (.ref f)=true
 kp:W.keepIn K (.ref f)=true
section
variable {X : Cx} {pins : List (Addr × Obj)} {σ : St} {H : Hp} {s : Shared} {a C dx : Addr} {fs : List (Str × V)} {f : Str} {v : V} {A : Around} {E : Value → Shared → Prop}
theorem getattr_ok {b:Bool} {Q:Value→Shared→Prop} (I:Inv X pins σ H s) (e:H a=some (.ins C dx fs)) (c:Cls X.K C) (n:NoAttr X.K C f) (l:fs.lookup f=some v)
  (h : ∀ u s',Inv X pins σ H s'→RelV v u→Q u s'):wpAny (model X.prog X.w) A (getAttr (.ref a) f b) Q E s:=by
 obtain ⟨mA,O,r,_,_,_⟩:=ins_get I.hok e
 obtain ⟨u,hu,ru⟩:=RelO.some_of (v:=v) (o:=mA f) (by rw [← l];exact r f)
 exact get_map I.kIn O (c.get f) c.hd n hu (handed_of ru) (h u _ (I.tok _) ru)
theorem getmeth_ok {m:Str} {g:Addr} {pl:Sem Bool} {Q:Value × List Value→Shared→Prop} (I:Inv X pins σ H s) (e:H a=some (.ins C dx fs)) (c:Cls X.K C) (k:Meth X.K C m g) (l:fs.lookup m=none)
  (h:Q (.ref g,[.ref a]) s):wpAny (model X.prog X.w) A (getMethod (.ref a) m pl) Q E s:=by
 obtain ⟨mA,O,r,_,_,_⟩:=ins_get I.hok e
 have hn:mA m=none:=RelO.none_of (by rw [← l];exact r m)
 exact get_meth I.kIn O (c.get m) k.at_ k.fn hn h
theorem setattr_ok {y:V} {u:Value} {Q:Unit→Shared→Prop} (I:Inv X pins σ H s) (e:H a=some (.ins C dx fs)) (c:Cls X.K C) (n:NoAttr X.K C f) (hl:fs.length < 1000) (ry:RelV y u)
  (h : ∀ s',Inv X pins σ (upd H a (.ins C dx (putF f y fs))) s'→Q () s'):wpAny (model X.prog X.w) A (setAttr (.ref a) f u) Q E s:=by
 obtain ⟨mA,O,r,wi,_,ho⟩:=ins_get I.hok e
 have hz:(fs.map (·.1)).length≤sizeLine:=by rw [List.length_map,sizeLine_eq];omega
 refine set_map I.kIn O c.sa c.po n.taker c.hd wi hz fun h' O' sb=>h _ ?_
 have hd : ∃ o,h'.get? dx=some o:=let ⟨o,_,_,e',_⟩:=O'.ns;⟨o,e'⟩
 refine I.write (x:=a) (e:=dx) (by rw [e];exact True.intro) (.inr ho) (fun b q hb z=>(sb.2 b hb).trans z) hd ?_
 refine ⟨by rw [upd_ne O.ne];exact ho,?_,O.ne,O'.obj,_,O'.ns,fun g=>?_,fun g hg=>?_⟩
 ·have:=length_putF f y fs;omega
 ·show RelO ((putF f y fs).lookup g) (if g=f then some u else mA g)
  rw [lookup_putF]
  by_cases q:g=f
  ·rw [if_pos q,if_pos q];exact ry
  ·rw [if_neg q,if_neg q];exact r g
 ·by_cases q:g=f
  ·rw [q];exact (keys_putF f y fs).1
  ·refine (keys_putF f y fs).2 g (wi g fun z=>hg ?_)
   show (if g=f then some u else mA g)=none
   rw [if_neg q];exact z
theorem Inv.made (I:Inv X pins σ H s):Inv X pins σ (upd (upd H s.heap.objs.size (.own (s.heap.objs.size+1))) (s.heap.objs.size+1) (.ins C s.heap.objs.size []))
  { s with heap:=(s.heap.push W.emptyDict).push (W.instObj C s.heap.objs.size) }:=by
 have e1:(s.heap.push W.emptyDict).get? s.heap.objs.size=some W.emptyDict:=Heap.get?_push_size s.heap rfl
 have e2:((s.heap.push W.emptyDict).push (W.instObj C s.heap.objs.size)).get? (s.heap.objs.size+1)=some (W.instObj C s.heap.objs.size):=by
  have:=Heap.get?_push_size (s.heap.push W.emptyDict) (o:=W.instObj C s.heap.objs.size) rfl
  rwa [Heap.size_push] at this
 have e3:(s.heap.push W.emptyDict).Ns s.heap.objs.size (fun _=>none):=⟨W.emptyDict,#[],_,e1,rfl,(fun e he=>absurd he (by simp)),fun _=>rfl⟩
 have I1:=I.laid (a:=s.heap.objs.size) (o:=.own (s.heap.objs.size+1)) (h':=s.heap.push W.emptyDict) (t':=s.toks) (fun b u q=>Heap.get?_push_of_some _ q) (Nat.le_refl _) ⟨_,e1⟩
 refine I1.laid (a:=s.heap.objs.size+1) (o:=.ins C s.heap.objs.size []) (t':=s.toks) (fun b u q=>Heap.get?_push_of_some _ q) (Nat.le_of_eq (Heap.size_push _ _)) ?_
 have ne:s.heap.objs.size≠s.heap.objs.size+1:=Nat.ne_of_lt (Nat.lt_succ_self _)
 refine ⟨by rw [upd_ne ne,upd_same],Nat.zero_le _,ne,e2,fun _=>none,(Heap.Ns1.of_empty e3).at fun o q=>Heap.get?_push_of_some _ q,fun _=>True.intro,fun y hy=>absurd rfl hy⟩
theorem attr_of {prog:Program} {w:World} {env:Env} {e:Expr} {f:Str} {pos:Pos} {s:Shared} {Q:Value→Shared→Prop} (hb:attributeBase e f env (eval e env)=eval e env)
  (h:wpAny (model prog w) A (eval e env) (fun o s₁=>wpAny (model prog w) A (getAttr o f true) Q E s₁) E s):wpAny (model prog w) A (eval (.Attribute e f pos) env) Q E s:=
 Attribute_any_ h (by rw [arm_eval_Attribute,hb])
end
def tFld (K:W.Frag) (ta:TE) (f:Str):TE:=fun σ H Q=>ta σ H fun x H1=>∃ a C dx fs v,x = .ref a∧H1 a=some (.ins C dx fs)∧Cls K C∧NoAttr K C f∧fs.lookup f=some v∧Q v H1
def sFld (K:W.Frag) (ta tv:TE) (f:Str):TS:=fun D σ H=>tv σ H fun y H1=>ta σ H1 fun x H2=>∃ a C dx fs,x = .ref a∧H2 a=some (.ins C dx fs)∧Cls K C∧NoAttr K C f∧fs.length < 1000 ∧
 D.nx σ (upd H2 a (.ins C dx (putF f y fs)))
section
variable {X : Cx} {o e value : Expr} {f : Str} {pos pos' tpos : Pos} {ta tv : TE}
theorem pe_fld (he:PE X e ta) (hb:attributeBase e f X.env (eval e X.env)=eval e X.env):PE X (.Attribute e f pos) (tFld X.K ta f):=by
 intro pins s σ H Q I h
 refine attr_of hb (thn (he pins s σ H _ I h) fun u s1 ⟨x,H1,I1,rx,a,C,dx,fs,v,ex,ea,c,n,l,q⟩=>?_)
 subst ex
 obtain rfl:u=Value.ref a:=rx
 exact getattr_ok I1 ea c n l fun u' s2 I2 ru=>⟨v,H1,I2,ru,q⟩
theorem ps_fld (ha:PE X o ta) (hv:PE X value tv) (hs:swapsWith value (some (.Attribute o f pos')) pos.line X.env=pure false):PS X (.Assign [.Attribute o f pos'] value pos) (sFld X.K ta tv f):=by
 intro pins s σ H D I h
 refine plainObj_wpAny_Assign_Attribute (thn (hv pins s σ H _ I h) fun u s1 ⟨y,H1,I1,ry,q⟩=>thn (ha pins s1 σ H1 _ I1 q) fun ov s2 ⟨x,H2,I2,rx,a,C,dx,fs,ex,ea,c,n,l,q2⟩=>?_) hs
 subst ex
 obtain rfl:ov=Value.ref a:=rx
 exact setattr_ok I2 ea c n l ry fun s3 I3=>⟨σ,_,I3,q2⟩
theorem methcall_of {pl:Sem Bool} {m:Str} {apos:Pos} {args:List Expr} {pins:List (Addr × Obj)} {s:Shared} {σ:St} {H:Hp} {Q:Value→Shared→Prop} {te:TE} (he:PE X e te) (I:Inv X pins σ H s)
  (h:te σ H fun x H1=>∃ a C dx fs g,x = .ref a∧H1 a=some (.ins C dx fs)∧Cls X.K C∧Meth X.K C m g∧fs.lookup m=none ∧
   ∀ s1,Inv X pins σ H1 s1→wpAny (model X.prog X.w) X.A (callWith pos (.ref g) [.ref a] (backTo pos (starEach args X.env)) (backToKw pos (keywordEach [] X.env))) Q X.xe s1)
  (ht:eval (.Call (.Attribute e m apos) args [] pos) X.env=(do
   let ov ← eval e X.env
   standAt apos.atName
   let (f,first) ← holding [ov] (getMethod ov m pl)
   callWith pos f first (backTo pos (starEach args X.env)) (backToKw pos (keywordEach [] X.env)))) :
  wpAny (model X.prog X.w) X.A (eval (.Call (.Attribute e m apos) args [] pos) X.env) Q X.xe s:=by
 refine W.methodCall_KW (pl:=pl) (thn (he pins s σ H _ I h) fun u s1 ⟨x,H1,I1,rx,a,C,dx,fs,g,ex,ea,c,k,l,q⟩=>?_) ht
 subst ex
 obtain rfl:u=Value.ref a:=rx
 exact getmeth_ok I1 ea c k l (q s1 I1)
end
section
variable {X : Cx} {pins : List (Addr × Obj)} {σ : St} {H : Hp} {s : Shared} {A : Around} {E : Value → Shared → Prop} {Q : Value → Shared → Prop} {c : Value} {b : Bool}
inductive TyOf (K:W.Frag) (H:Hp):V→Value→Prop where
 | non:TyOf K H .non (.type "NoneType")
 | bl (x:Bool):TyOf K H (.bl x) (.type "bool")
 | int (i:Int):TyOf K H (.int i) (.type "int")
 | str (x:Str):TyOf K H (.str x) (.type "str")
 | flt (x:UInt64):TyOf K H (.flt x) (.type "float")
 | lst {a:Addr} {xs:List V} (e:H a=some (.lst xs)):TyOf K H (.ref a) (.type "list")
 | frz {a:Addr} {o:Obj} {xs:List V} (e:H a=some (.frz o (.lst xs))):TyOf K H (.ref a) (.type "list")
 | tup {a:Addr} {xs:List V} (e:H a=some (.tup xs)):TyOf K H (.ref a) (.type "tuple")
 | dK {a:Addr} {kvs:List (Key × V)} (e:H a=some (.dK kvs)):TyOf K H (.ref a) (.type "dict")
 | dT {a:Addr} {kvs:List (List Key × V)} (e:H a=some (.dT kvs)):TyOf K H (.ref a) (.type "dict")
 | ins {a C dx:Addr} {fs:List (Str × V)} (e:H a=some (.ins C dx fs)) (cl:Cls K C) (ha:W.findIn K (.ref C) "__class__" = some (some (.builtin "object.__class__")))
   (hn:W.specialIn K (.builtin "object.__class__") "__get__" = some (some (.builtin "getset_descriptor.__get__"))) (htk:W.takesIn K (.builtin "object.__class__")=some true)
   (hm:W.mroIn K C (.type "object")=some true):TyOf K H (.ref a) (.ref C)
theorem isinst_ok {x : V} {u t : Value} (I : Inv X pins σ H s) (rx : RelV x u) (ty : TyOf X.K H x t) (e : W.kitOne X.K t c = some b) (h : ∀ tk, Q (.bool b) { s with toks := tk }) :
    wpAny (model X.prog X.w) A (call (.builtin "isinstance") [u, c]) Q E s := by
  cases ty with
  | non => cases (show u = Value.none from rx); exact W.kia_one W.kitx_none I.kIn True.intro e (fun z => nomatch z) h
  | bl y => cases (show u = Value.bool y from rx); exact W.kia_one W.kitx_bool I.kIn True.intro e (fun z => nomatch z) h
  | int i => obtain ⟨t, q⟩ := (show ∃ t, u = Value.int i t from rx); cases q; exact W.kia_one W.kitx_int I.kIn True.intro e (fun z => nomatch z) h
  | str y => obtain ⟨t, q⟩ := (show ∃ t, u = Value.str y t from rx); cases q; exact W.kia_one W.kitx_str I.kIn True.intro e (fun z => nomatch z) h
  | flt y => obtain ⟨t, q⟩ := (show ∃ t, u = Value.float y t from rx); cases q; exact W.kia_one W.kitx_float I.kIn True.intro e (fun z => nomatch z) h
  | @lst a xs ea =>
    cases (show u = Value.ref a from rx)
    obtain ⟨_, _, n, _, h1⟩ := (show ObjOk X.prog X.w H s.heap a (.lst xs) from I.hok a _ ea)
    exact W.kia_one W.kitx_list I.kIn ⟨_, h1, rfl⟩ e (fun z => nomatch z) h
  | @frz a ob xs ea =>
    cases (show u = Value.ref a from rx)
    obtain ⟨_, _, _, n, _, h1⟩ := (show ObjOk X.prog X.w H s.heap a (.frz ob (.lst xs)) from I.hok a _ ea)
    exact W.kia_one W.kitx_list I.kIn ⟨_, h1, rfl⟩ e (fun z => nomatch z) h
  | @tup a xs ea =>
    cases (show u = Value.ref a from rx)
    obtain ⟨_, _, _, p⟩ := (show ObjOk X.prog X.w H s.heap a (.tup xs) from I.hok a _ ea)
    obtain ⟨o, h1, h2, _⟩ := p
    exact W.kia_one W.kitx_tuple I.kIn ⟨o, h1, h2⟩ e (fun z => nomatch z) h
  | @dK a kvs ea =>
    cases (show u = Value.ref a from rx)
    obtain ⟨_, _, vs, _, p⟩ := (show ObjOk X.prog X.w H s.heap a (.dK kvs) from I.hok a _ ea)
    obtain ⟨o, es, ep, h1, h2, _⟩ := p
    exact W.kia_one W.kitx_dict I.kIn ⟨o, h1, h2.1⟩ e (fun z => nomatch z) h
  | @dT a kvs ea =>
    cases (show u = Value.ref a from rx)
    obtain ⟨_, _, xs, _, o, es, ep, h1, h2, _⟩ := (show ObjOk X.prog X.w H s.heap a (.dT kvs) from I.hok a _ ea)
    exact W.kia_one W.kitx_dict I.kIn ⟨o, h1, h2.1⟩ e (fun z => nomatch z) h
  | @ins a C dx fs ea cl ha hn htk hm =>
    cases (show u = Value.ref a from rx)
    obtain ⟨mA, O, _⟩ := ins_get I.hok ea
    obtain ⟨od, J, _⟩ := O.look
    exact W.kia_one (W.kitx_own (cl.get _) cl.hd ha hn htk hm) I.kIn J e (fun z => nomatch z) h
end
structure Room (k:Nat) (A:Around):Prop where
 hd:A.handled=none
 dp:A.depth+3*k+5 < recursionLimit
 un:A.units+16*k+200 < cLine
theorem Room.mono {j k:Nat} {A:Around} (r:Room k A) (h:j≤k):Room j A:=⟨r.hd,by have:=r.dp;omega,by have:=r.un;omega⟩
theorem Room.deeper {k:Nat} {A:Around} (r:Room (k+1) A) (env:Env):Room k (A.deeper env):=
 ⟨r.hd,by have:=r.dp;show A.depth+1+3*k+5 < _;omega,by have:=r.un;show A.units+3+16*k+200 < _;omega⟩
theorem Room.in1 {k:Nat} {A:Around} (r:Room (k+1) A):Room k A.in1:=
 ⟨r.hd,by have:=r.dp;show A.depth+3*k+5 < _;omega,by have:=r.un;show A.units+1+16*k+200 < _;omega⟩
theorem make_depth {A:Around} {C:Addr} {us:List Value} {kw:List (Str × Value)}:(A.under (.builtin "type.__call__" ⟨.ref C::us,kw⟩)).depth=A.depth+1:=by
 first | rfl | simp [Around.under,Code.weight,Code.isCreation,Code.isGuard,Code.isCaller,Code.frames,Code.isFrame,guardIds]
theorem make_units {A:Around} {C:Addr} {us:List Value} {kw:List (Str × Value)}:(A.under (.builtin "type.__call__" ⟨.ref C::us,kw⟩)).units=A.units+1:=by
 first | rfl | simp [Around.under,Code.cUnits,Code.frames,Code.isFrame]
theorem Room.make {k:Nat} {A:Around} (r:Room (k+1) A) (C:Addr) (us:List Value) (kw:List (Str × Value)):Room k (A.under (.builtin "type.__call__" ⟨.ref C::us,kw⟩)):=
 ⟨r.hd,by have:=r.dp;rw [make_depth];omega,by have:=r.un;rw [make_units];omega⟩
theorem Room.depth {k:Nat} {A:Around} (r:Room k A):A.depth < recursionLimit:=by have:=r.dp;omega
theorem Room.units {k:Nat} {A:Around} (r:Room k A):A.units+64 < cLine:=by have:=r.un;omega
def tNil:TA:=fun _ H Q=>Q [] H
def tCons (ta:TE) (tr:TA):TA:=fun σ H Q=>ta σ H fun x H1=>tr σ H1 fun xs H2=>Q (x::xs) H2
section
variable {X : Cx} {e : Expr} {es : List Expr} {te : TE} {t : TA} {pos : Pos}
theorem pa_nil:PA X [] tNil:=fun _ _ _ _ H Q I h=>Calls.spliced_nil ⟨[],H,I,.nil,h⟩
theorem pa_cons (ha:PE X e te) (hr:PA X es t) (hs:starEach (e::es) X.env=(false,eval e X.env)::starEach es X.env:=by rfl):PA X (e::es) (tCons te t):=by
 intro pos pins s σ H Q I h
 rw [hs]
 show wpAny _ _ (spliced ((false,eval e X.env)::backTo pos (starEach es X.env))) _ _ s
 refine Calls.spliced_cons (thn (ha pins s σ H _ I h) fun u s1 ⟨x,H1,I1,r1,q1⟩=>?_)
 exact thn (hr pos pins s1 σ H1 _ I1 q1) fun us s2 ⟨xs,H2,I2,r2,q2⟩=>⟨x::xs,H2,I2,.cons r1 r2,q2⟩
def tTup (t:TA):TE:=fun σ H Q=>t σ H fun xs H1=>xs.length≤sizeLine ∧ ∀ p,H1 p=none→Q (.ref p) (upd H1 p (.tup xs))
def tLst (t:TA):TE:=fun σ H Q=>t σ H fun xs H1=>xs.length≤sizeLine ∧ ∀ p,H1 p=none→Q (.ref p) (upd H1 p (.lst xs))
theorem pe_tup {x1} (h:PA X es t):PE X (.Tuple es x1 pos) (tTup t):=by
 intro pins s σ H Q I hq
 refine wpAny_Tuple_spliced (thn (h pos pins s σ H _ I hq) fun us s1 ⟨xs,H1,I1,r,z,q⟩=>⟨by rw [← r.length];exact z,?_⟩)
 have hf:H1 s1.heap.objs.size=none:=I1.hok.fresh (Nat.le_refl _)
 refine ⟨.ref s1.heap.objs.size,upd H1 s1.heap.objs.size (.tup xs),I1.laid (t':=s1.toks) (fun b u e=>Heap.get?_push_of_some _ e) (Nat.le_refl _) ?_,rfl,q _ hf⟩
 exact ⟨z,us,r,⟨_,Heap.get?_push_size _ rfl,rfl,_,rfl⟩⟩
theorem pe_lst (h:PA X es t):PE X (.List es pos) (tLst t):=by
 intro pins s σ H Q I hq
 refine wpAny_List_spliced (thn (h pos pins s σ H _ I hq) fun us s1 ⟨xs,H1,I1,r,z,q⟩=>⟨by rw [← r.length];exact z,?_⟩)
 have hf:H1 s1.heap.objs.size=none:=I1.hok.fresh (Nat.le_refl _)
 refine ⟨.ref s1.heap.objs.size,upd H1 s1.heap.objs.size (.lst xs),I1.laid (t':=s1.toks) (fun b u e=>Heap.get?_push_of_some _ e) (Nat.le_refl _) ?_,rfl,q _ hf⟩
 exact ⟨z,us,0,r,Heap.get?_push_size _ rfl⟩
end
abbrev Sp:=List V→Hp→VK→XK→Prop
abbrev CXT:=List Env→Hp→Shared→XK→Value→Shared→Prop
structure Env0 (P:Program) (w:World) (K:W.Frag) (mg:Str→Option Value) (base:Heap) (A:Around) (outer:List Env) (s:Shared) (H:Hp):Prop where
 frames:A.frames=some outer
 mod:Mod K mg base
 bs : ∀ b o,base.get? b=some o→s.heap.get? b=some o∧H b=none
 bsz:base.objs.size≤s.heap.objs.size
 funs:s.heap.FunFrames base outer
 frf : ∀ b ∈ frs outer,H b=none
 hok:HOk P w H s.heap
 bare:AllBare s.gens
def CE (outer:List Env) (P:Program) (w:World) (H:Hp) (s:Shared) (Q:VK) (u:Value) (s':Shared):Prop:=
 ∃ v H',s'.os=s.os∧AllBare s'.gens∧Un (frs outer) [] H H' s.heap s'.heap∧HOk P w H' s'.heap∧RelV v u∧Q v H'
def CR (CX:CXT) (outer:List Env) (P:Program) (w:World) (H:Hp) (s:Shared) (Q:VK) (E:XK) (r:Result) (s':Shared):Prop:=
 match r with
 | .ok (.ret u)=>CE outer P w H s Q u s'
 | .ok _=>False
 | .error e=>CX outer H s E e s'
structure FnOk (P:Program) (w:World) (K:W.Frag) (mg:Str→Option Value) (base:Heap) (CX:CXT) (k:Nat) (f:Addr) (fd:FuncData) (ps:List Str) (sp:Sp):Prop where
 len : ∀ vs H Q E,sp vs H Q E→vs.length=ps.length
 run : ∀ (A:Around) (outer:List Env) (s:Shared) (H:Hp) (args:Args) (us:List Value) (vs:List V) (Q:VK) (E:XK),Room k A→Env0 P w K mg base A outer s H→BindsTo s fd args (ps.zip us)→Vals vs us→sp vs H Q E →
  codeAny (model P w) A (.call (.ref f) args) (CR CX outer P w H s Q E) s
theorem FnOk.mono {P:Program} {w:World} {K:W.Frag} {mg:Str→Option Value} {base:Heap} {CX:CXT} {j k:Nat} {f:Addr} {fd:FuncData} {ps:List Str} {sp:Sp} (F:FnOk P w K mg base CX j f fd ps sp) (h:j≤k) :
  FnOk P w K mg base CX k f fd ps sp:=⟨F.len,fun A outer s H args us vs Q E hr=>F.run A outer s H args us vs Q E (hr.mono h)⟩
theorem FnOk.imp {P:Program} {w:World} {K:W.Frag} {mg:Str→Option Value} {base:Heap} {CX:CXT} {k:Nat} {f:Addr} {fd:FuncData} {ps:List Str} {sp sp':Sp} (F:FnOk P w K mg base CX k f fd ps sp)
  (h : ∀ vs H Q E,sp' vs H Q E→sp vs H Q E):FnOk P w K mg base CX k f fd ps sp':=
 ⟨fun vs H Q E q=>F.len vs H Q E (h _ _ _ _ q),fun A outer s H args us vs Q E hr he hb hv hs=>F.run A outer s H args us vs Q E hr he hb hv (h _ _ _ _ hs)⟩
theorem Env0.make {P:Program} {w:World} {K:W.Frag} {mg:Str→Option Value} {base:Heap} {A:Around} {outer:List Env} {s:Shared} {H:Hp} (e:Env0 P w K mg base A outer s H) (C:Addr) (us:List Value) (kw:List (Str × Value)) :
  Env0 P w K mg base (A.under (.builtin "type.__call__" ⟨.ref C::us,kw⟩)) outer s H:=⟨by first | exact e.frames | (simpa [Around.under,Code.envs,Code.isFrame,pushEnvs] using e.frames),e.mod,e.bs,e.bsz,e.funs,e.frf,e.hok,e.bare⟩
theorem Env0.in1 {P:Program} {w:World} {K:W.Frag} {mg:Str→Option Value} {base:Heap} {A:Around} {outer:List Env} {s:Shared} {H:Hp} (e:Env0 P w K mg base A outer s H) :
  Env0 P w K mg base A.in1 outer s H:=⟨e.frames,e.mod,e.bs,e.bsz,e.funs,e.frf,e.hok,e.bare⟩
section
variable {X : Cx} {pins : List (Addr × Obj)} {σ : St} {H : Hp} {s s' : Shared}
theorem Inv.env0 (I:Inv X pins σ H s):Env0 X.prog X.w X.K X.mg X.base X.A X.stack s H:=
 ⟨I.ok.frames,I.ok.mod,I.bs,Nat.le_trans I.ok.bsz I.sz,I.stack,I.stkFree,I.hok,I.bare⟩
theorem Inv.after {Q:VK} {u:Value} (I:Inv X pins σ H s) (h:CE X.stack X.prog X.w H s Q u s'):EP X pins σ Q u s':=by
 obtain ⟨v,H',os,bare,un,hok,r,q⟩:=h
 obtain ⟨hh,g,d,t,os'⟩:=s'
 obtain rfl:os'=s.os:=os
 exact ⟨v,H',I.call (h':=hh) (g':=g) (d':=d) (t':=t) (ch:=[]) un hok bare (fun b z=>absurd z (by simp)),r,q⟩
end
def tCall (sp:Sp) (dvs:List V) (E:XK) (t:TA):TE:=fun σ H Q=>t σ H fun vs H1=>sp (vs++dvs) H1 Q E
def tMeth (C:Addr) (m:Str) (sp:Sp) (dvs:List V) (E:XK) (ta:TE) (t:TA):TE:=fun σ H Q=>ta σ H fun x H1=>∃ a dx fs,x = .ref a∧H1 a=some (.ins C dx fs)∧fs.lookup m=none ∧
 t σ H1 fun vs H2=>sp (x::(vs++dvs)) H2 Q E
def tMake (C:Addr) (sp:Sp) (dvs:List V) (E:XK) (t:TA):TE:=fun σ H Q=>t σ H fun vs H1=>∀ x dx,H1 x=none→H1 dx=none→dx≠x →
 sp (.ref x::(vs++dvs)) (upd (upd H1 dx (.own x)) x (.ins C dx [])) (fun v H2=>v = .non∧Q (.ref x) H2) E
def Binds (K:W.Frag) (fd:FuncData) (ps:List Str) (ds:List Value):Prop:=
 ∀ (s:Shared) (us:List Value),K.In s.heap→(us++ds).length=ps.length→BindsTo s fd ⟨us,[]⟩ (ps.zip (us++ds))
theorem Binds.all {K:W.Frag} {fd:FuncData} {ps:List Str} (h : ∀ us:List Value,us.length=ps.length→bindArgs fd ⟨us,[]⟩=pure (ps.zip us)):Binds K fd ps []:=fun s us _ hl=>by
 rw [List.append_nil] at hl ⊢
 exact .of_eq (h us hl)
def Passes (CX:CXT) (X:Cx) (E:XK):Prop:=∀ (pins:List (Addr × Obj)) (σ:St) (H:Hp) (s:Shared) (e:Value) (s':Shared),Inv X pins σ H s→CX X.stack H s E e s'→X.xe e s'
section
variable {X : Cx} {CX : CXT} {k : Nat} {f C : Addr} {fd : FuncData} {ps : List Str} {sp : Sp} {dvs : List V} {ds : List Value} {E : XK} {x m : Str} {p pos apos : Pos} {e o : Expr} {es : List Expr} {ta : TE} {t : TA}
theorem run_fn {pins : List (Addr × Obj)} {σ : St} {H : Hp} {s : Shared} {Q : VK} {us : List Value} {vs : List V} (F : FnOk X.prog X.w X.K X.mg X.base CX k f fd ps sp) (hr : Room k X.A) (hb : Binds X.K fd ps ds) (hd : Vals dvs ds) (hx : Passes CX X E)
    (I : Inv X pins σ H s) (r : Vals vs us) (h : sp (vs ++ dvs) H Q E) : wpAny (model X.prog X.w) X.A (call (.ref f) us) (EP X pins σ Q) X.xe s := by
  have r2 : Vals (vs ++ dvs) (us ++ ds) := r.append hd
  have hl : (us ++ ds).length = ps.length := by rw [← r2.length]; exact F.len _ _ _ _ h
  refine wpAny_call (codeAny_mono (F.run X.A X.stack s H ⟨us, []⟩ (us ++ ds) (vs ++ dvs) Q E hr I.env0 (hb s us I.kIn hl) r2 h) fun r s' hq => ?_)
  cases r with
  | error e => exact hx pins σ H s e s' I hq
  | ok fl =>
    cases fl with
    | ret u => exact I.after hq
    | next => exact False.elim hq
    | brk => exact False.elim hq
    | cont => exact False.elim hq
theorem pe_call (F:FnOk X.prog X.w X.K X.mg X.base CX k f fd ps sp) (hr:Room k X.A) (hg:Gl X x) (hm:X.mg x=some (.ref f)) (hk:W.keepIn X.K (.ref f)=true) (hb:Binds X.K fd ps ds) (hd:Vals dvs ds) (hx:Passes CX X E)
  (ha:PA X (e::es) t) (hdb:(x == ("__debug__" : Str))=false:=by decide) (he:starEach (e::es) X.env=(false,eval e X.env)::starEach es X.env:=by rfl) (hpl:(backTo pos (starEach es X.env)).any (·.1)=false:=by rfl) :
  PE X (.Call (.Name x p) (e::es) [] pos) (tCall sp dvs E t):=by
 intro pins s σ H Q I h
 refine wpAny_Call_Name_kw (ld_glob I hg hm ?_ hdb)
 refine W.callWith_K (h₀:=X.base) I.ok.mod.kin hk (thn (ha pos pins s σ H _ I h) fun us s1 ⟨vs,H1,I1,r,q⟩=>⟨I1.kIn,?_⟩) he hpl
 exact run_fn F hr hb hd hx I1 r q
theorem pe_call0 (F:FnOk X.prog X.w X.K X.mg X.base CX k f fd ps sp) (hr:Room k X.A) (hg:Gl X x) (hm:X.mg x=some (.ref f)) (hk:W.keepIn X.K (.ref f)=true) (hb:Binds X.K fd ps ds) (hd:Vals dvs ds) (hx:Passes CX X E)
  (hdb:(x == ("__debug__" : Str))=false:=by decide):PE X (.Call (.Name x p) [] [] pos) (tCall sp dvs E tNil):=by
 intro pins s σ H Q I h
 refine wpAny_Call_Name_kw (ld_glob I hg hm ?_ hdb)
 exact W.callWith_K0 I.kIn hk (run_fn (us:=[]) F hr hb hd hx I .nil h)
theorem pe_meth {pl:Sem Bool} (he:PE X o ta) (c:Cls X.K C) (hm:Meth X.K C m f) (F:FnOk X.prog X.w X.K X.mg X.base CX k f fd ps sp) (hr:Room k X.A) (hb:Binds X.K fd ps ds) (hd:Vals dvs ds) (hx:Passes CX X E) (ha:PA X (e::es) t)
  (hst:starEach (e::es) X.env=(false,eval e X.env)::starEach es X.env:=by rfl) (hpl:(backTo pos (starEach es X.env)).any (·.1)=false:=by rfl)
  (ht:eval (.Call (.Attribute o m apos) (e::es) [] pos) X.env=(do
   let ov ← eval o X.env
   standAt apos.atName
   let (f,first) ← holding [ov] (getMethod ov m pl)
   callWith pos f first (backTo pos (starEach (e::es) X.env)) (backToKw pos (keywordEach [] X.env))):=by rfl) :
  PE X (.Call (.Attribute o m apos) (e::es) [] pos) (tMeth C m sp dvs E ta t):=by
 intro pins s σ H Q I h
 refine W.methodCall_KW (pl:=pl) (thn (he pins s σ H _ I h) fun u s1 ⟨x,H1,I1,rx,a,dx,fs,ex,ea,l,q⟩=>?_) ht
 subst ex
 obtain rfl:u=Value.ref a:=rx
 refine getmeth_ok I1 ea c hm l ?_
 refine W.callWith_K (first:=[.ref a]) (h₀:=X.base) I.ok.mod.kin hm.kp (thn (ha pos pins s1 σ H1 _ I1 q) fun us s2 ⟨vs,H2,I2,r,q2⟩=>⟨I2.kIn,?_⟩) hst hpl
 exact run_fn (us:=.ref a::us) (vs:=.ref a::vs) F hr hb hd hx I2 (.cons rfl r) q2
theorem pe_meth0 {pl:Sem Bool} (he:PE X o ta) (c:Cls X.K C) (hm:Meth X.K C m f) (F:FnOk X.prog X.w X.K X.mg X.base CX k f fd ps sp) (hr:Room k X.A) (hb:Binds X.K fd ps ds) (hd:Vals dvs ds) (hx:Passes CX X E)
  (ht:eval (.Call (.Attribute o m apos) [] [] pos) X.env=(do
   let ov ← eval o X.env
   standAt apos.atName
   let (f,first) ← holding [ov] (getMethod ov m pl)
   callWith pos f first (backTo pos (starEach [] X.env)) (backToKw pos (keywordEach [] X.env))):=by rfl) :
  PE X (.Call (.Attribute o m apos) [] [] pos) (tMeth C m sp dvs E ta tNil):=by
 intro pins s σ H Q I h
 refine W.methodCall_KW (pl:=pl) (thn (he pins s σ H _ I h) fun u s1 ⟨x,H1,I1,rx,a,dx,fs,ex,ea,l,q⟩=>?_) ht
 subst ex
 obtain rfl:u=Value.ref a:=rx
 refine getmeth_ok I1 ea c hm l ?_
 exact W.callWith_K0 (first:=[.ref a]) I1.kIn hm.kp (run_fn (us:=[.ref a]) (vs:=[.ref a]) F hr hb hd hx I1 (.cons rfl .nil) q)
structure Mk (K:W.Frag) (C f:Addr):Prop where
 makes:W.makesIn K C=true
 init:W.findIn K (.ref C) "__init__" = some (some (.ref f))
 fn:W.isFn K (.ref f)=true
 kp:W.keepIn K (.ref C)=true
theorem run_make {pins : List (Addr × Obj)} {σ : St} {H : Hp} {s : Shared} {Q : VK} {us : List Value} {vs : List V} (M : Mk X.K C f) (F : FnOk X.prog X.w X.K X.mg X.base CX k f fd ps sp) (hr : Room (k + 1) X.A) (hb : Binds X.K fd ps ds) (hd : Vals dvs ds)
    (hx : Passes CX X E) (I : Inv X pins σ H s) (r : Vals vs us)
    (h : ∀ x dx, H x = none → H dx = none → dx ≠ x → sp (.ref x :: (vs ++ dvs)) (upd (upd H dx (.own x)) x (.ins C dx [])) (fun v H2 => v = .non ∧ Q (.ref x) H2) E) :
    wpAny (model X.prog X.w) X.A (call (.ref C) us) (EP X pins σ Q) X.xe s := by
  have hq := h (s.heap.objs.size + 1) s.heap.objs.size (I.hok.fresh (Nat.le_succ _)) (I.hok.fresh (Nat.le_refl _)) (Nat.ne_of_lt (Nat.lt_succ_self _))
  have I2 := Inv.made (C := C) I
  have r2 : Vals (V.ref (s.heap.objs.size + 1) :: (vs ++ dvs)) (Value.ref (s.heap.objs.size + 1) :: (us ++ ds)) := .cons rfl (r.append hd)
  have hl : (Value.ref (s.heap.objs.size + 1) :: us ++ ds).length = ps.length := by
    have e := r2.length
    rw [F.len _ _ _ _ hq] at e
    exact e.symm
  refine wpAny_call (make_map (f := f) I.kIn M.makes M.init (beq_iff_eq.mp M.fn) (codeAny_mono (F.run _ X.stack _ _ ⟨Value.ref (s.heap.objs.size + 1) :: us, []⟩ (Value.ref (s.heap.objs.size + 1) :: (us ++ ds)) _ _ E (hr.make C us [])
    (I2.env0.make C us []) (hb _ (Value.ref (s.heap.objs.size + 1) :: us) I2.kIn hl) r2 hq) fun r s' hq' => ?_))
  cases r with
  | error e => exact hx pins σ _ _ e s' I2 hq'
  | ok fl =>
    cases fl with
    | ret u =>
      obtain ⟨v, H', I3, rv, ev, q3⟩ := I2.after hq'
      subst ev
      exact ⟨rv, ⟨V.ref (s.heap.objs.size + 1), H', I3, rfl, q3⟩⟩
    | next => exact False.elim hq'
    | brk => exact False.elim hq'
    | cont => exact False.elim hq'
theorem pe_make (M:Mk X.K C f) (F:FnOk X.prog X.w X.K X.mg X.base CX k f fd ps sp) (hr:Room (k+1) X.A) (hg:Gl X x) (hm:X.mg x=some (.ref C)) (hb:Binds X.K fd ps ds) (hd:Vals dvs ds) (hx:Passes CX X E)
  (ha:PA X (e::es) t) (hdb:(x == ("__debug__" : Str))=false:=by decide) (he:starEach (e::es) X.env=(false,eval e X.env)::starEach es X.env:=by rfl) (hpl:(backTo pos (starEach es X.env)).any (·.1)=false:=by rfl) :
  PE X (.Call (.Name x p) (e::es) [] pos) (tMake C sp dvs E t):=by
 intro pins s σ H Q I h
 refine wpAny_Call_Name_kw (ld_glob I hg hm ?_ hdb)
 refine W.callWith_K (h₀:=X.base) I.ok.mod.kin M.kp (thn (ha pos pins s σ H _ I h) fun us s1 ⟨vs,H1,I1,r,q⟩=>⟨I1.kIn,?_⟩) he hpl
 exact run_make M F hr hb hd hx I1 r q
end
section
variable {X : Cx} {CX : CXT} {k : Nat} {f C : Addr} {fd : FuncData} {ps ks : List Str} {sp : Sp} {E : XK} {x m : Str} {p pos apos kpos : Pos} {e o : Expr} {es : List Expr} {kws : List Keyword} {te ta : TE} {t tk : TA} {nm : Option Str}
structure KBinds (K:W.Frag) (fd:FuncData) (ps ks:List Str) (g:List Value→List Value→List Value) (gV:List V→List V→List V):Prop where
 to : ∀ (s:Shared) (us ws:List Value),K.In s.heap→(g us ws).length=ps.length→BindsTo s fd ⟨us,ks.zip ws⟩ (ps.zip (g us ws))
 rel : ∀ {vs:List V} {us:List Value} {zs:List V} {ws:List Value},Vals vs us→Vals zs ws→Vals (gV vs zs) (g us ws)
variable {g : List Value → List Value → List Value} {gV : List V → List V → List V}
end
structure FnScope (N P:List Str) (sc:Scope):Prop where
 kind:sc.kind = .function
 co:sc.isCoroutine=false
 gen:sc.isGenerator=false
 nd:N.Nodup
 pre:N.take P.length=P
 par : ∀ x ∈ P,sc.names.lookup x=some .local∨sc.names.lookup x=some .cell
 nofree : ∀ y ∈ sc.names,y.2 ≠ .free
theorem bindL_out {kindOf : Str → Option NameKind} {x : Str} : ∀ {binds : List (Str × Value)} {m : Str → Option Value}, (∀ v, (x, v) ∉ binds) → bindL kindOf binds m x = m x
  | [], _, _ => rfl
  | (n, v) :: r, m, h => by
    unfold bindL
    rw [bindL_out fun w hw => h w (List.mem_cons_of_mem _ hw)]
    split
    · have : x ≠ n := by rintro rfl; exact h v List.mem_cons_self
      simp [this]
    · rfl
theorem bindC_out {kindOf : Str → Option NameKind} {x : Str} : ∀ {binds : List (Str × Value)} {m : Str → Option Value}, (∀ v, (x, v) ∉ binds) → bindC kindOf binds m x = m x
  | [], _, _ => rfl
  | (n, v) :: r, m, h => by
    unfold bindC
    rw [bindC_out fun w hw => h w (List.mem_cons_of_mem _ hw)]
    split
    · rfl
    · have : x ≠ n := by rintro rfl; exact h v List.mem_cons_self
      simp [this]
theorem bindL_get {kindOf : Str → Option NameKind} {x : Str} {v : Value} : ∀ {P : List Str} {vs : List Value} {i : Nat} {m : Str → Option Value}, P.Nodup → P[i]? = some x → vs[i]? = some v → kindOf x = some .local →
    bindL kindOf (P.zip vs) m x = some v
  | [], _, _, _, _, h, _, _ => by simp at h
  | _ :: _, [], _, _, _, _, h, _ => by simp at h
  | p :: P, w :: vs, 0, m, nd, h1, h2, hk => by
    simp at h1 h2; subst h1; subst h2
    show bindL kindOf ((p, w) :: P.zip vs) m p = _
    unfold bindL
    rw [bindL_out fun v hv => (List.nodup_cons.mp nd).1 (List.of_mem_zip hv).1, if_pos hk]
    simp
  | p :: P, w :: vs, i + 1, m, nd, h1, h2, hk => by
    show bindL kindOf ((p, w) :: P.zip vs) m x = _
    unfold bindL
    exact bindL_get (i := i) (List.nodup_cons.mp nd).2 (by simpa using h1) (by simpa using h2) hk
theorem bindC_get {kindOf : Str → Option NameKind} {x : Str} {v : Value} : ∀ {P : List Str} {vs : List Value} {i : Nat} {m : Str → Option Value}, P.Nodup → P[i]? = some x → vs[i]? = some v → kindOf x ≠ some .local →
    bindC kindOf (P.zip vs) m x = some v
  | [], _, _, _, _, h, _, _ => by simp at h
  | _ :: _, [], _, _, _, _, h, _ => by simp at h
  | p :: P, w :: vs, 0, m, nd, h1, h2, hk => by
    simp at h1 h2; subst h1; subst h2
    show bindC kindOf ((p, w) :: P.zip vs) m p = _
    unfold bindC
    rw [bindC_out fun v hv => (List.nodup_cons.mp nd).1 (List.of_mem_zip hv).1, if_neg hk]
    simp
  | p :: P, w :: vs, i + 1, m, nd, h1, h2, hk => by
    show bindC kindOf ((p, w) :: P.zip vs) m x = _
    unfold bindC
    exact bindC_get (i := i) (List.nodup_cons.mp nd).2 (by simpa using h1) (by simpa using h2) hk
def start (N:List Str) (vs:List V):St:=vs.map some++List.replicate (N.length - vs.length) none
def cxOf (CX:CXT) (P:Program) (w:World) (K:W.Frag) (mg:Str→Option Value) (base:Heap) (N:List Str) (qual:Str) (scope:Scope) (f:Addr) (cd:Value) (A:Around) (outer:List Env) (s:Shared) (H:Hp) (E:XK):Cx where
 prog:=P
 w:=w
 K:=K
 mg:=mg
 base:=base
 A:=A.deeper (envOfC qual scope s.heap.objs.size f cd)
 N:=N
 s₀:=s
 H₀:=H
 env:=envOfC qual scope s.heap.objs.size f cd
 outer:=outer
 stack:=envOfC qual scope s.heap.objs.size f cd::outer
 ex:=[]
 calm:=true
 fn:=fun _=>true
 pn:=[]
 xe:=fun e s'=>wpAny (model P w) (A.deeper (envOfC qual scope s.heap.objs.size f cd)) (leaving (envOfC qual scope s.heap.objs.size f cd) e) (fun _ s''=>CX outer H s E e s'') (fun e' s''=>CX outer H s E e' s'') s'
theorem cell_has {sc:Scope} {n:Nat} {x:Str} (h:sc.names.lookup x=some .cell) : ∃ c,(cellsFrom n sc.names []).lookup x=some c:=by
 have q:=W.cellsFrom_some sc.names n [] (.inl h)
 exact Option.isSome_iff_exists.mp q
theorem inv_start {CX:CXT} {P:Program} {w:World} {K:W.Frag} {mg:Str→Option Value} {base:Heap} {N ps:List Str} {qual:Str} {scope:Scope} {f:Addr} {cd:Value} {A:Around} {outer:List Env} {s s1:Shared} {H:Hp} {E:XK} {us:List Value} {vs:List V}
  (S:FnScope N ps scope) (hd:A.handled=none) (e0:Env0 P w K mg base A outer s H) (hl:vs.length=ps.length) (r:Vals vs us)
  (x:InCallC s s.heap.objs.size (bindL (envOfC qual scope s.heap.objs.size f cd).kindOf (ps.zip us) fun _=>none) (cellsFrom (s.heap.objs.size+1) scope.names []) (bindC (envOfC qual scope s.heap.objs.size f cd).kindOf (ps.zip us) fun _=>none) s1) :
  Inv (cxOf CX P w K mg base N qual scope f cd A outer s H E) [] (start N vs) H s1:=by
 have hpl:ps.length≤N.length:=by have:=congrArg List.length S.pre;rw [List.length_take] at this;omega
 obtain ⟨h1,tk,rfl,hk⟩:=x.done
 have noA : ∀ b:Addr,b ∉ (cxOf CX P w K mg base N qual scope f cd A outer s H E).ex:=fun b z=>absurd (show b ∈ ([]:List Addr) from z) (by simp)
 refine ⟨⟨e0.mod,S.kind,rfl,rfl,Nat.le_refl _,fun y z c h1 h2=>?_,fun y hy=>?_,fun y c _ h=>?_,fun _=>hd,Around.frames_deeper e0.frames,.inr ⟨rfl,rfl⟩,fun b z=>absurd z (noA b),e0.bs,e0.bsz,fun b _ _=>noA b,fun b z=>absurd z (noA b),e0.funs,e0.frf⟩,
  rfl,e0.bare,Un.kept hk,⟨_,x.toInCall.ns,fun i y v h1 h2 h3=>?_⟩,fun y c h=>⟨_,x.cell y c h⟩,e0.hok.fresh (Nat.le_refl _),fun y c h=>?_,fun p hp=>absurd (show p ∈ ([]:List (Addr × Obj)) from hp) (by simp),e0.hok.kept hk,?_⟩
 ·exact name_of_addr x.apart (PySem.mem_of_lookup h1) (PySem.mem_of_lookup h2)
 ·have hy:scope.names.lookup y=some .cell∨scope.names.lookup y=some .free:=hy
  rcases hy with hy | hy
  ·exact cell_has hy
  ·exact absurd rfl (S.nofree _ (PySem.mem_of_lookup hy))
 ·exact Nat.le_of_lt (x.above y c (PySem.mem_of_lookup h))
 ·have hi:i < vs.length:=by
   unfold start at h2
   by_cases hi:i < vs.length
   ·exact hi
   ·rw [List.getElem?_append_right (by simpa using hi)] at h2
    rw [List.getElem?_replicate] at h2
    split at h2 <;> cases h2
  have ha:vs[i]? = some v:=by
   unfold start at h2
   rw [List.getElem?_append_left (by simpa using hi),List.getElem?_map] at h2
   cases e:vs[i]? with
   | none=>rw [e] at h2;cases h2
   | some a=>rw [e] at h2;cases h2;rfl
  obtain ⟨u,hu,rv⟩:=r.get ha
  have hp:ps[i]? = some y:=by
   rw [← S.pre,List.getElem?_take_of_lt (by omega)];exact h1
  have ndP:ps.Nodup:=by rw [← S.pre];exact S.nd.sublist (List.take_sublist _ _)
  refine ⟨u,rv,?_⟩
  rcases S.par y (List.mem_of_getElem? hp) with k | k
  ·exact .inl ⟨k,bindL_get ndP hp hu k⟩
  ·obtain ⟨c,e⟩:=cell_has (n:=s.heap.objs.size+1) k
   refine .inr ⟨.inl k,c,e,?_⟩
   have q:=x.cell y c e
   rw [bindC_get ndP hp hu (by show scope.names.lookup y≠_;rw [k];decide)] at q
   exact q
 ·exact e0.hok.fresh (Nat.le_of_lt (x.above y c (PySem.mem_of_lookup h)))
 ·unfold start
  show _=N.length
  rw [List.length_append,List.length_map,List.length_replicate]
  omega
theorem fn_of {CX : CXT} {P : Program} {w : World} {K : W.Frag} {mg : Str → Option Value} {base : Heap} {k : Nat} {f : Addr} {name qual : Str} {params : Arguments} {body : List Stmt} {scope : Scope} {dV kV doc pm cdv ct oc : Value} {an od : Option Addr}
    {osl : Array (Option Value)} {N ps : List Str} {sp : Sp} (lk : K.lookup f = some ⟨oc, od, .func (W.fnOf name qual params body scope dV kV doc pm an cdv ct), osl⟩) (hcd : W.codeIn K cdv qual = true) (S : FnScope N ps scope)
    (len : ∀ vs H Q E, sp vs H Q E → vs.length = ps.length)
    (hbody : ∀ (A : Around) (outer : List Env) (s : Shared) (H : Hp) (vs : List V) (Q : VK) (E : XK), Room k (A.deeper (envOfC qual scope s.heap.objs.size f cdv)) → sp vs H Q E →
      ∃ t, PSs (cxOf CX P w K mg base N qual scope f cdv A outer s H E) body t ∧ t { nx := fun _ H' => Q .non H', rt := Q } (start N vs) H) :
    FnOk P w K mg base CX (k + 1) f (W.fnOf name qual params body scope dV kV doc pm an cdv ct) ps sp := by
  refine ⟨len, fun A outer s H args us vs Q E hr e0 hb r hsp => ?_⟩
  have hl := len _ _ _ _ hsp
  have KX : K.In s.heap := e0.mod.kin.keeps fun b o e => (e0.bs b o e).1
  have lim : s.heap.NoLimit := e0.mod.nolimit.keeps fun b o e => (e0.bs b o e).1
  have hkind : ∀ y ∈ ps.zip us, scope.names.lookup y.1 = some .local ∨ (scope.names.lookup y.1 = some .cell ∧ ((cellsFrom (s.heap.objs.size + 1) scope.names []).lookup y.1).isSome = true) := fun ⟨n, v⟩ hy => by
    rcases S.par n (List.of_mem_zip hy).1 with q | q
    · exact .inl q
    · exact .inr ⟨q, W.cellsFrom_some _ _ _ (.inl q)⟩
  refine codeAny_call_function hr.depth (KX _ _ lk) rfl S.co S.gen rfl (W.codeRec_of KX hcd) (hb _ _ _ _ ?_)
  refine wpAny_newFunctionEnv_cells S.kind hkind fun env he s1 x => ?_
  subst he
  refine ⟨lim.keeps x.toInCall.keep, codeAny_func ?_⟩
  obtain ⟨t, ht, hq⟩ := hbody A outer s H vs Q E (hr.deeper _) hsp
  have I : Inv (cxOf CX P w K mg base N qual scope f cdv A outer s H E) [] (start N vs) H s1 := inv_start S hr.hd e0 hl r x
  refine wpAny_mono (ht [] s1 (start N vs) H _ I hq) (fun fl s' hs => ?_) fun e s' hs => hs
  have fin : ∀ {σ' : St} {H' : Hp} {v : V} {u : Value}, Inv (cxOf CX P w K mg base N qual scope f cdv A outer s H E) [] σ' H' s' → RelV v u → Q v H' → CE outer P w H s Q u s' :=
    fun {σ' H' v u} J rv q => ⟨v, H', J.os, J.bare, J.base, J.hok, rv, q⟩
  cases fl with
  | ret u =>
    obtain ⟨v, σ', H', J, rv, q⟩ := hs
    exact fin J rv q
  | next =>
    obtain ⟨σ', H', J, q⟩ := hs
    exact fin (v := V.non) (u := Value.none) J rfl q
  | brk =>
    obtain ⟨_, _, _, q⟩ := hs
    exact False.elim q
  | cont =>
    obtain ⟨_, _, _, q⟩ := hs
    exact False.elim q
section
variable {X : Cx} {x : Str} {p pos : Pos} {e : Expr} {es : List Expr} {t : TA} {id T : String} {r : List V → Hp → VK → Prop}
def tCB (r:List V→Hp→VK→Prop) (t:TA):TE:=fun σ H Q=>t σ H fun vs H1=>r vs H1 Q
theorem pe_callB (hc:CallR X (.builtin id) r) (hg:Gl X x) (hm:X.mg x=none) (hv:bootBuiltins x=some (.builtin id)) (ha:PA X (e::es) t) (hn:x ≠ "__name__" := by decide) (hdb:(x == ("__debug__" : Str))=false:=by decide)
  (he:starEach (e::es) X.env=(false,eval e X.env)::starEach es X.env:=by rfl) (hpl:(backTo pos (starEach es X.env)).any (·.1)=false:=by rfl):PE X (.Call (.Name x p) (e::es) [] pos) (tCB r t):=by
 intro pins s σ H Q I h
 refine wpAny_Call_Name_kw (ld_blt I hg hm hv ?_ hn hdb)
 exact PyProof.Rows.callWith_builtin1 (thn (ha pos pins s σ H _ I h) fun us s1 ⟨vs,H1,I1,r1,q1⟩=>hc pins s1 σ H1 vs us Q I1 r1 q1) he hpl
theorem pe_callTy (hc:CallR X (.type T) r) (hg:Gl X x) (hm:X.mg x=none) (hv:bootBuiltins x=some (.type T)) (ha:PA X (e::es) t) (hn:x ≠ "__name__" := by decide) (hdb:(x == ("__debug__" : Str))=false:=by decide)
  (he:starEach (e::es) X.env=(false,eval e X.env)::starEach es X.env:=by rfl) (hpl:(backTo pos (starEach es X.env)).any (·.1)=false:=by rfl):PE X (.Call (.Name x p) (e::es) [] pos) (tCB r t):=by
 intro pins s σ H Q I h
 refine wpAny_Call_Name_kw (ld_blt I hg hm hv ?_ hn hdb)
 exact PyProof.Rows.callWith_type1 (thn (ha pos pins s σ H _ I h) fun us s1 ⟨vs,H1,I1,r1,q1⟩=>hc pins s1 σ H1 vs us Q I1 r1 q1) he hpl
end
end L2
namespace HT
open PySem PyProof.Rows
section
open PySem.SeqAt
open PySem.AutoSeq1 (wpAny_loadPart')
open PySem.MeetsSeq PySem.MeetsSeq2 PySem.MeetsSeq3
end
section
variable {prog : Program} {w : World} {A : Around} {E : Value → Shared → Prop} {s : Shared}
theorem cat_tup {t b:Addr} {vs ws:List Value} {Q:Value→Shared→Prop} (ht:IsTup s.heap t vs.toArray) (hb:IsTup s.heap b ws.toArray) (hv:vs≠[])
  (h1:ws=[]→Q (.ref t) s) (h2:ws≠[]→Q (.ref s.heap.objs.size) { s with heap:=s.heap.push { cls:=.type "tuple", data:=.seq (vs++ws).toArray } })
  (hsz:vs.length+ws.length≤sizeLine):wpAny (model prog w) A (binaryOp .Add (.ref t) (.ref b)) Q E s:=by
 obtain ⟨⟨cls,dd,data,sl⟩,ho,hc,n,hd⟩:=id ht
 obtain ⟨⟨cls2,dd2,data2,sl2⟩,ho2,hc2,n2,hd2⟩:=id hb
 simp only at hc hd hc2 hd2
 subst hc hd hc2 hd2
 have e:vs.toArray++ws.toArray=(vs++ws).toArray:=by simp
 by_cases hw:ws=[]
 ·exact concat_meets ⟨_,ho,rfl⟩ ⟨_,ho2,rfl⟩ noFill_tuple_add seq_tuple_add PySem.F.slot_tuple_add PySem.F.entry_tuple_add (PySem.F.args_tuple_add_2 _ _)
   (tuple_addW1 t b vs.toArray ws.toArray n n2 dd dd2 sl sl2 (by simpa using hv) (by simp [hw])) ⟨ho,ho2,h1 hw⟩
 ·refine concat_meets ⟨_,ho,rfl⟩ ⟨_,ho2,rfl⟩ noFill_tuple_add seq_tuple_add PySem.F.slot_tuple_add PySem.F.entry_tuple_add (PySem.F.args_tuple_add_2 _ _)
   (tuple_addW2 t b vs.toArray ws.toArray n n2 dd dd2 sl sl2 (by simpa using hv) (by simpa using hw) (by rw [List.size_toArray,List.size_toArray];exact hsz)) ⟨ho,ho2,?_⟩
  rw [e]
  exact h2 hw
def sIx (n d:Nat):Option Int→Nat
 | none=>d
 | some v=>if v < 0 then (v+(n:Int)).toNat else min v.toNat n
theorem sIx_none (n d:Nat):sIx n d none=d:=rfl
theorem sIx_nat (n d k:Nat):sIx n d (some (k:Int))=min k n:=by
 show (if (k:Int) < 0 then ((k:Int)+(n:Int)).toNat else min (k:Int).toNat n)=min k n
 rw [if_neg (by omega),Int.toNat_natCast]
theorem sIx_le (n d : Nat) (hd : d ≤ n) (o : Option Int) : sIx n d o ≤ n := by
  cases o with
  | none => exact hd
  | some v =>
    show (if v < 0 then (v + (n : Int)).toNat else min v.toNat n) ≤ n
    by_cases hv : v < 0
    · rw [if_pos hv]; omega
    · rw [if_neg hv]; exact Nat.min_le_right _ _
theorem clip_eq (v:Int) (n d:Nat):(if v < 0 then max (v+(n:Int)) 0 else min v (n:Int))=((sIx n d (some v):Nat):Int):=by
 show (if v < 0 then max (v+(n:Int)) 0 else min v (n:Int))=(((if v < 0 then (v+(n:Int)).toNat else min v.toNat n):Nat):Int)
 by_cases hv:v < 0
 ·simp only [if_pos hv];omega
 ·simp only [if_neg hv];omega
theorem adjust_gen (lo hi:Option Int) (n:Nat):Builtin.Slice.sliceAdjust lo hi 1 (n:Int)=(((sIx n 0 lo:Nat):Int),((sIx n n hi:Nat):Int)):=by
 have h1 : ¬ ((1:Int) < 0):=by omega
 unfold Builtin.Slice.sliceAdjust
 simp only [h1,if_false]
 refine Prod.ext ?_ ?_
 ·cases lo with
  | none=>rfl
  | some v=>exact clip_eq v n 0
 ·cases hi with
  | none=>rfl
  | some v=>exact clip_eq v n n
theorem places_gen (i j:Nat):Builtin.Slice.slicePlaces (i:Int) (j:Int) 1=j - i:=by
 unfold Builtin.Slice.slicePlaces
 have h1:(1:Int) > 0:=by omega
 simp only [h1,if_true,Int.ediv_one]
 split <;> omega
theorem slicePart_ {v:Value} {o:Option Int} {Q:Option Int→Shared→Prop} (p:IsPart v o) (h:Q o s):wpAny (model prog w) A (Builtin.Slice.slicePartIndex v) Q E s:=by
 cases p with
 | none=>exact slicePart_none h
 | int i t=>exact slicePart_int h
theorem sliceApplied_gen {sl:Addr} {vl vu:Value} {lo hi:Option Int} {n:Nat} {Q:Int × Int × Nat→Shared→Prop} (hs:s.heap.IsSliceOf sl vl vu .none) (pl:IsPart vl lo) (pu:IsPart vu hi)
  (h:Q (((sIx n 0 lo:Nat):Int),1,sIx n n hi - sIx n 0 lo) s):wpAny (model prog w) A (Builtin.Slice.sliceApplied (.ref sl) (pure (n:Int))) Q E s:=by
 obtain ⟨os,hos,hcs,hds⟩:=id hs
 unfold Builtin.Slice.sliceApplied Builtin.Slice.sliceFields
 refine wpAny_bind (wpAny_bind (wpAny_field hos hds (x:=vl) rfl (wpAny_bind (wpAny_field hos hds (x:=vu) rfl (wpAny_bind (wpAny_field hos hds (x:=.none) rfl (wpAny_pure ?_)))))))
 refine wpAny_bind (slicePart_none ?_)
 show wpAny _ _ (if ((1:Int) == 0)=true then _ else _) _ _ s
 rw [if_neg (by decide)]
 refine wpAny_bind (slicePart_ pl (wpAny_bind (slicePart_ pu (wpAny_bind (wpAny_pure ?_)))))
 show wpAny _ _ (match Builtin.Slice.sliceAdjust lo hi 1 (n:Int) with | (lo,hi)=>pure (lo,(1:Int),Builtin.Slice.slicePlaces lo hi 1)) _ _ s
 rw [adjust_gen lo hi n]
 show wpAny _ _ (pure (((sIx n 0 lo:Nat):Int),(1:Int),Builtin.Slice.slicePlaces ((sIx n 0 lo:Nat):Int) ((sIx n n hi:Nat):Int) 1)) _ _ s
 rw [places_gen]
 exact wpAny_pure h
theorem pick_gen (xs:Array Value) (i k:Nat):((List.range k).filterMap fun (m:Nat)=>xs[((i:Int)+(m:Int)*1).toNat]?).toArray=((xs.toList.drop i).take k).toArray:=by
 have e:(fun (m:Nat)=>xs[((i:Int)+(m:Int)*1).toNat]?)=fun m=>xs[i+m]?:=by
  funext m
  have:((i:Int)+(m:Int)*1).toNat=i+m:=by omega
  rw [this]
 rw [e]
 have:=pick_run xs i k
 rw [List.filterMap_map] at this
 have e2:((fun x=>xs[x]?) ∘ fun x=>i+x)=fun m=>xs[i+m]?:=rfl
 rw [e2] at this
 rw [this]
theorem getItem_tuple_cut {t sl:Addr} {items:Array Value} {vl vu:Value} {lo hi:Option Int} {Q:Value→Shared→Prop} (ht:IsTup s.heap t items) (hs:s.heap.IsSliceOf sl vl vu .none) (pl:IsPart vl lo) (pu:IsPart vu hi)
  (hw : ¬ (sIx items.size 0 lo=0∧sIx items.size items.size hi=items.size))
  (h:Q (.ref s.heap.objs.size) { s with heap:=s.heap.push { cls:=.type "tuple", data:=.seq ((items.toList.drop (sIx items.size 0 lo)).take (sIx items.size items.size hi - sIx items.size 0 lo)).toArray } })
  (hsz:items.size≤sizeLine):wpAny (model prog w) A (getItem (.ref t) (.ref sl)) Q E s:=by
 have htake:sizeOk (.seq ((items.toList.drop (sIx items.size 0 lo)).take (sIx items.size items.size hi - sIx items.size 0 lo)).toArray):=by
  show ((items.toList.drop (sIx items.size 0 lo)).take (sIx items.size items.size hi - sIx items.size 0 lo)).toArray.size≤sizeLine
  rw [List.size_toArray,List.length_take,List.length_drop,Array.length_toList]
  omega
 have hj:sIx items.size items.size hi≤items.size:=sIx_le _ _ (Nat.le_refl _) hi
 obtain ⟨os,hos,hcs,hds⟩:=id hs
 have hTs:s.TypeIs (.ref sl) "slice" := ⟨os,hos,hcs⟩
 unfold getItem
 try with_reducible refine wpAny_holding ?_
 first | refine wpAny_bind (wpAny_pure ?_) | skip
 refine wpAny_bind (wpAny_sequenceKey ht.typeIs (by decide) ?_)
 refine wpAny_bind (wpAny_callSpecial?_slot (name:=Str.ofString "__getitem__") ht.typeIs PyProof.Rows.slot_tuple_getitem
  (wpAny_call_entry PyProof.Rows.slot_tuple_getitem ht.typeIs entry_tuple_getitem ?_ (args_tuple_getitem _ _)))
 show wpAny _ _ (Builtin.Tuple.tupleItemsOf (.ref t) >>= _) _ _ s
 refine wpAny_bind (tupleItemsOf_ ht ?_)
 refine wpAny_bind (wpAny_typeOf hTs ?_)
 rw [if_pos (by decide)]
 refine wpAny_bind (sliceApplied_gen hs pl pu ?_)
 have hno : ¬ ((((sIx items.size 0 lo:Nat):Int) == 0 && (1:Int) == 1 && (sIx items.size items.size hi - sIx items.size 0 lo) == items.size)=true):=by
  intro q
  rw [Bool.and_eq_true,Bool.and_eq_true] at q
  have q1:((sIx items.size 0 lo:Nat):Int)=0:=eq_of_beq q.1.1
  have q2:sIx items.size items.size hi - sIx items.size 0 lo=items.size:=eq_of_beq q.2
  exact hw ⟨by omega,by omega⟩
 show wpAny _ _ (if (((sIx items.size 0 lo:Nat):Int) == 0 && (1:Int) == 1 && (sIx items.size items.size hi - sIx items.size 0 lo) == items.size)=true then _ else _) _ _ s
 rw [if_neg hno,pick_gen]
 first
  | exact wpAny_bind (m:=Builtin.Tuple.tupleExact _) (wpAny_newObj_type (wpAny_pure ⟨_,rfl,wpAny_pure h⟩) htake)
  | exact wpAny_bind (m:=Builtin.Tuple.tupleExact _) (wpAny_newObj_type (wpAny_bind (wpAny_pure (wpAny_pure ⟨_,rfl,wpAny_pure h⟩))) htake)
  | exact wpAny_bind (wpAny_bind (m:=Builtin.Tuple.tupleExact _) (wpAny_newObj_type (wpAny_pure (wpAny_pure ⟨_,rfl,wpAny_pure h⟩)) htake))
  | exact wpAny_bind (wpAny_bind (m:=Builtin.Tuple.tupleExact _) (wpAny_newObj_type (wpAny_pure ⟨_,rfl,wpAny_pure h⟩) htake))
end
end HT
namespace L2
open PySem PySem.Spec PyProof.Rows
abbrev TO:=St→Hp→(Option Int→Hp→Prop)→Prop
def PO (X:Cx) (e:Option Expr) (t:TO):Prop:=
 ∀ (pins:List (Addr × Obj)) (s:Shared) (σ:St) (H:Hp) (Q:Option Int→Hp→Prop),Inv X pins σ H s→t σ H Q →
  wpAny (model X.prog X.w) X.A (evalPart e X.env) (fun u s'=>∃ o H',Inv X pins σ H' s'∧IsPart u o∧Q o H') X.xe s
def tNoPart:TO:=fun _ H Q=>Q none H
def tPart (t:TE):TO:=fun σ H Q=>t σ H fun x H1=>∃ i,x = .int i∧Q (some i) H1
section
variable {X : Cx} {e : Expr} {te : TE} {lo hi : Option Expr} {tl th : TO} {pos p2 : Pos}
theorem po_none:PO X none tNoPart:=by
 intro pins s σ H Q I h
 rw [evalPart_none]
 exact wpAny_pure ⟨none,H,I,.none,h⟩
theorem po_some (h:PE X e te):PO X (some e) (tPart te):=by
 intro pins s σ H Q I hw
 rw [evalPart_some]
 refine thn (h pins s σ H _ I hw) fun u s1 ⟨x,H1,I1,r1,q1⟩=>?_
 obtain ⟨i,rfl,q⟩:=q1
 obtain ⟨t,rfl⟩:=r1
 exact ⟨some i,H1,I1,.int i t,q⟩
def SlR (X:Cx) (r:V→Option Int→Option Int→Hp→VK→Prop):Prop:=
 ∀ (pins:List (Addr × Obj)) (s:Shared) (σ:St) (H:Hp) (x:V) (v vl vu:Value) (lo hi:Option Int) (sl:Addr) (Q:VK),Inv X pins σ H s→RelV x v→s.heap.IsSliceOf sl vl vu .none→IsPart vl lo→IsPart vu hi→r x lo hi H Q →
  ∃ T id,typeLookup (.type T) "__getitem__" = pure (some (.builtin id))∧s.TypeIs v T∧wpAny (model X.prog X.w) X.A (getItem v (.ref sl)) (EP X pins σ Q) X.xe s
def tSl (r:V→Option Int→Option Int→Hp→VK→Prop) (te:TE) (tl th:TO):TE:=fun σ H Q=>te σ H fun x H1=>tl σ H1 fun l H2=>th σ H2 fun u H3=>r x l u H3 Q
theorem pe_slice {r:V→Option Int→Option Int→Hp→VK→Prop} (hr:SlR X r) (he:PE X e te) (hl:PO X lo tl) (hu:PO X hi th):PE X (.Subscript e (.Slice lo hi none p2) pos) (tSl r te tl th):=by
 intro pins s σ H Q I h
 refine Subscript_ (thn (he pins s σ H _ I h) fun v s1 ⟨x,H1,I1,r1,q1⟩=>?_)
 refine wpAny_Slice (thn (hl pins s1 σ H1 _ I1 q1) fun vl s2 ⟨l,H2,I2,pl,q2⟩=>thn (hu pins s2 σ H2 _ I2 q2) fun vu s3 ⟨u,H3,I3,pu,q3⟩=>?_)
 rw [evalPart_none]
 refine wpAny_pure ?_
 have I4:Inv X pins σ H3 { s3 with heap:=s3.heap.push { cls:=.type "slice", data:=.fields #[vl,vu,.none] } }:=I3.kept (t':=s3.toks) fun b ob q=>Heap.get?_push_of_some _ q
 obtain ⟨T,id,hT,ht,hg⟩:=hr pins { s3 with heap:=s3.heap.push { cls:=.type "slice", data:=.fields #[vl,vu,.none] } } σ H3 x v vl vu l u s3.heap.objs.size Q I4 r1 (Heap.IsSliceOf.new ..) pl pu q3
 show wpAny (model X.prog X.w) X.A (subscriptTail e (.Slice lo hi none p2) v (.ref s3.heap.objs.size)) (EP X pins σ Q) X.xe { s3 with heap:=s3.heap.push { cls:=.type "slice", data:=.fields #[vl,vu,.none] } }
 exact tail_any (ops:=[.ref s3.heap.objs.size,v]) ht hT hg (by with_unfolding_all rfl)
def cutV (xs:List V) (lo hi:Option Int):List V:=(xs.drop (HT.sIx xs.length 0 lo)).take (HT.sIx xs.length xs.length hi - HT.sIx xs.length 0 lo)
theorem cutV_length (xs:List V) (lo hi:Option Int):(cutV xs lo hi).length≤xs.length:=by
 unfold cutV
 rw [List.length_take,List.length_drop]
 omega
def rSlT (K:W.Frag):V→Option Int→Option Int→Hp→VK→Prop:=fun x lo hi H Q=>∃ a xs,x = .ref a∧SqT K H a xs ∧
 ¬ (HT.sIx xs.length 0 lo=0∧HT.sIx xs.length xs.length hi=xs.length) ∧ ∀ p,H p=none→Q (.ref p) (upd H p (.tup (cutV xs lo hi)))
theorem sl_tup:SlR X (rSlT X.K):=by
 intro pins s σ H x v vl vu lo hi sl Q I rx hs pl pu h
 obtain ⟨a,xs,rfl,hx,hw,q⟩:=h
 cases rx
 obtain ⟨its,r,ht,hz⟩:=I.tuple hx
 have hlen:its.toArray.size=xs.length:=by rw [List.size_toArray];exact r.length.symm
 refine ⟨"tuple", _,PyProof.Rows.slot_tuple_getitem.lookup,ht.typeIs,?_⟩
 refine HT.getItem_tuple_cut ht hs pl pu (by rw [hlen];exact hw) ?_ (by rw [hlen];exact hz)
 rw [hlen]
 refine ⟨.ref s.heap.objs.size,_,I.laid (t':=s.toks) (o:=.tup (cutV xs lo hi)) (fun b ob q=>Heap.get?_push_of_some _ q) (Nat.le_refl _) ?_,rfl,q _ (I.hok.fresh (Nat.le_refl _))⟩
 exact ⟨Nat.le_trans (cutV_length xs lo hi) hz,_,(r.drop (HT.sIx xs.length 0 lo)).take (HT.sIx xs.length xs.length hi - HT.sIx xs.length 0 lo),IsTup.new _ _⟩
def rCatT (K:W.Frag):R2:=fun x y H Q=>∃ a b xs ys,x = .ref a∧y = .ref b∧SqT K H a xs∧SqT K H b ys∧xs≠[]∧xs.length+ys.length≤sizeLine ∧
 (ys=[]→Q (.ref a) H)∧(ys≠[] → ∀ p,H p=none→Q (.ref p) (upd H p (.tup (xs++ys))))
theorem Vals.nil_iff {xs:List V} {us:List Value} (r:Vals xs us):us=[]↔xs=[]:=by
 cases r with
 | nil=>simp
 | cons _ _=>simp
theorem op_catT:OpR X (binaryOp .Add) (rCatT X.K):=by
 intro pins s σ H x y v u Q I rx ry h
 obtain ⟨a,b,xs,ys,rfl,rfl,ha,hb,hx,hz,q1,q2⟩:=h
 cases rx
 cases ry
 obtain ⟨its,r1,p1,_⟩:=I.tuple ha
 obtain ⟨its2,r2,p2,_⟩:=I.tuple hb
 refine HT.cat_tup p1 p2 (fun z=>hx (r1.nil_iff.mp z)) (fun z=>⟨.ref a,H,I,rfl,q1 (r2.nil_iff.mp z)⟩) (fun z=>?_) (by rw [← r1.length,← r2.length];exact hz)
 refine ⟨.ref s.heap.objs.size,_,I.laid (t':=s.toks) (o:=.tup (xs++ys)) (fun b ob q=>Heap.get?_push_of_some _ q) (Nat.le_refl _) ?_,rfl,q2 (fun w=>z (r2.nil_iff.mpr w)) _ (I.hok.fresh (Nat.le_refl _))⟩
 exact ⟨by rw [List.length_append];exact hz,_,r1.append r2,IsTup.new _ _⟩
end
def ixN (n:Nat) (i:Int):Option Nat:=if 0≤i then (if i < n then some i.toNat else none) else if -(n:Int)≤i then some (i+n).toNat else none
def atI {α:Type} (xs:List α) (i:Int):Option α:=(ixN xs.length i).bind fun j=>xs[j]?
theorem ixN_seq {n:Nat} {i:Int} {j:Nat} (h:ixN n i=some j):seqIndex? i n=some j∧j < n ∧ -(n:Int)≤i∧i < n:=by
 unfold ixN at h
 by_cases h0:0≤i
 ·rw [if_pos h0] at h
  by_cases h1:i < n
  ·rw [if_pos h1] at h
   have e:i.toNat=j:=Option.some.inj h
   exact ⟨by rw [seqIndex_of h0 h1,e],by omega,by omega,h1⟩
  ·rw [if_neg h1] at h;cases h
 ·rw [if_neg h0] at h
  by_cases h1 : -(n:Int)≤i
  ·rw [if_pos h1] at h
   have e:(i+n).toNat=j:=Option.some.inj h
   exact ⟨by rw [seqIndex_neg (by omega) h1,e],by omega,h1,by omega⟩
  ·rw [if_neg h1] at h;cases h
theorem atI_get {α : Type} {xs : List α} {i : Int} {v : α} (h : atI xs i = some v) : ∃ j, seqIndex? i xs.length = some j ∧ xs[j]? = some v ∧ j < xs.length ∧ -(xs.length : Int) ≤ i ∧ i < xs.length := by
  unfold atI at h
  cases e : ixN xs.length i with
  | none => rw [e] at h; cases h
  | some j =>
    rw [e] at h
    obtain ⟨h1, h2, h3, h4⟩ := ixN_seq e
    exact ⟨j, h1, h, h2, h3, h4⟩
theorem atI_nat {α:Type} {xs:List α} {j:Nat} {v:α} (h:xs[j]? = some v):atI xs (j:Int)=some v:=by
 have hj:j < xs.length:=(List.getElem?_eq_some_iff.mp h).1
 have e:ixN xs.length (j:Int)=some j:=by
  unfold ixN
  rw [if_pos (by omega),if_pos (by omega)];simp
 unfold atI;rw [e];exact h
def PlainIx (b:Expr):Prop:=∀ o i,subscripted b false o i=operate [o,i] (getItem o i)
def IxR (X:Cx) (r:R2):Prop:=
 ∀ (value slice:Expr) (pins:List (Addr × Obj)) (s:Shared) (σ:St) (H:Hp) (x y:V) (v u:Value) (Q:VK),Inv X pins σ H s→RelV x v→RelV y u→r x y H Q →
  subscripted slice false v u=operate [v,u] (getItem v u)→wpAny (model X.prog X.w) X.A (subscriptTail value slice v u) (EP X pins σ Q) X.xe s
def MtR (X:Cx) (id:String) (r:V→List V→Hp→VK→Prop):Prop:=
 ∀ (pins:List (Addr × Obj)) (s:Shared) (σ:St) (H:Hp) (x:V) (xs:List V) (v:Value) (us:List Value) (Q:VK),Inv X pins σ H s→RelV x v→Vals xs us→r x xs H Q →
  wpAny (model X.prog X.w) X.A (call (.builtin id) (v::us)) (EP X pins σ Q) X.xe s
section
variable {X : Cx} {a b : Expr} {ta tb : TE} {pos : Pos}
theorem pe_ix {r:R2} (hr:IxR X r) (ha:PE X a ta) (hb:PE X b tb) (hs:PlainIx b):PE X (.Subscript a b pos) (tOp r ta tb):=by
 intro pins s σ H Q I h
 exact Subscript_ (binT ha hb I h fun v u s2 x y H2 I2 rx ry q=>hr a b pins s2 σ H2 x y v u Q I2 rx ry q (hs _ _))
def rIxL (K:W.Frag):R2:=fun x y H Q=>∃ p xs i v,x = .ref p∧y = .int i∧SqL K H p xs∧atI xs i=some v∧Q v H
def rIxT (K:W.Frag):R2:=fun x y H Q=>∃ p xs i v,x = .ref p∧y = .int i∧SqT K H p xs∧atI xs i=some v∧Q v H
def rIxS:R2:=fun x y H Q=>∃ z i c,x = .str z∧y = .int i∧z.length≤sizeLine∧atI z.cps.toList i=some c∧Q (.str ⟨#[c]⟩) H
theorem ix_list:IxR X (rIxL X.K):=by
 intro value slice pins s σ H x y v u Q I rx ry h hs
 obtain ⟨p,xs,i,z,rfl,rfl,hq,he,q⟩:=h
 cases rx
 obtain ⟨t,rfl⟩:=ry
 obtain ⟨its,r,pl,hz⟩:=I.list hq
 obtain ⟨j,h1,h2,h3,h4,h5⟩:=atI_get he
 obtain ⟨w,ew,rw'⟩:=r.get h2
 have hl:=r.length
 have hn:=line63
 have fin:EP X pins σ Q w s:=⟨z,H,I,rw',q⟩
 by_cases h0:0≤i
 ·have hj:i.toNat=j:=by
   rw [seqIndex_of h0 h5] at h1
   exact Option.some.inj h1
  exact item_listR pl.isList h0 (by omega) (by rw [hj];simpa using ew) fin hs
 ·have hj:(i+(its.toArray.size:Int)).toNat=j:=by
   rw [seqIndex_neg (by omega) h4] at h1
   rw [List.size_toArray,← hl]
   exact Option.some.inj h1
  exact subscriptTail_builtinR (x:=w) pl.isList.typeIs slot_list_getitem.lookup
   (wpAny_getItem_list_neg (Q:=fun r s'=>r=w∧EP X pins σ Q r s') pl.isList (by omega) (by rw [List.size_toArray] <;> omega) (by omega) (by rw [hj];simpa using ew) ⟨rfl,fin⟩) hs
theorem ix_tup:IxR X (rIxT X.K):=by
 intro value slice pins s σ H x y v u Q I rx ry h hs
 obtain ⟨p,xs,i,z,rfl,rfl,hq,he,q⟩:=h
 cases rx
 obtain ⟨t,rfl⟩:=ry
 obtain ⟨its,r,pl,hz⟩:=I.tuple hq
 obtain ⟨j,h1,h2,h3,h4,h5⟩:=atI_get he
 obtain ⟨w,ew,rw'⟩:=r.get h2
 have hl:=r.length
 have hn:=line63
 have fin:EP X pins σ Q w s:=⟨z,H,I,rw',q⟩
 exact subscriptTail_builtinR (x:=w) pl.typeIs slot_tuple_getitem.lookup
  (getItem_tuple (j:=j) (Q:=fun r s'=>r=w∧EP X pins σ Q r s') pl (by omega) (by omega) (by rw [List.size_toArray,← hl];exact h1) (by simpa using ew) ⟨rfl,fin⟩) hs
theorem ix_str:IxR X rIxS:=by
 intro value slice pins s σ H x y v u Q I rx ry h hs
 obtain ⟨z,i,c,rfl,rfl,hz,he,q⟩:=h
 obtain ⟨t,rfl⟩:=rx
 obtain ⟨t',rfl⟩:=ry
 obtain ⟨j,h1,h2,h3,h4,h5⟩:=atI_get he
 have hl:z.cps.toList.length=z.length:=by simp [Str.length]
 rw [hl] at h1 h4 h5
 have hn:=line63
 exact tail_any (typeIs_str s z t) slot_str_getitem.lookup (getItem_str (c:=c) (by
  have e1:decide (i < -(2 ^ 63:Int))=false:=decide_eq_false (by omega)
  have e2:decide (i ≥ 2 ^ 63)=false:=decide_eq_false (by omega)
  rw [e1,e2,Bool.or_false]) (by rw [h1];simpa using h2) ⟨.str ⟨#[c]⟩,H,I.tok _,⟨_,rfl⟩,q⟩) hs
theorem Inv.lst {pins:List (Addr × Obj)} {σ:St} {H:Hp} {s:Shared} {p:Addr} {xs:List V} (I:Inv X pins σ H s) (h:H p=some (.lst xs)) :
  ∃ (its:List Value) (n:Nat),Vals xs its∧s.heap.get? p=some { cls:=.type "list", data:=.seq its.toArray n }∧xs.length≤sizeLine:=by
 obtain ⟨z,its,n,r,e⟩:=I.hok p _ h
 exact ⟨its,n,r,e,z⟩
theorem slice_bounds (lo hi : Option Int) (n : Nat) : (sliceBounds lo hi none n).1 = ((HT.sIx n 0 lo : Nat) : Int) ∧ (sliceBounds lo hi none n).2.1 = ((HT.sIx n n hi : Nat) : Int) ∧ (sliceBounds lo hi none n).2.2 = 1 := by
  refine ⟨?_, ?_, rfl⟩
  · cases lo with
    | none => simp [sliceBounds, HT.sIx]
    | some i =>
      simp only [sliceBounds, HT.sIx, Option.getD_none, show (1 : Int) > 0 by decide, if_true]
      by_cases h : i < 0
      · simp only [h, if_true] <;> omega
      · simp only [h, if_false] <;> omega
  · cases hi with
    | none => simp [sliceBounds, HT.sIx]
    | some i =>
      simp only [sliceBounds, HT.sIx, Option.getD_none, show (1 : Int) > 0 by decide, if_true]
      by_cases h : i < 0
      · simp only [h, if_true] <;> omega
      · simp only [h, if_false] <;> omega
theorem slicePick_cut (its:List Value) (lo hi:Option Int):slicePick its.toArray lo hi none=((its.drop (HT.sIx its.length 0 lo)).take (HT.sIx its.length its.length hi - HT.sIx its.length 0 lo)).toArray:=by
 obtain ⟨h1,h2,h3⟩:=slice_bounds lo hi its.toArray.size
 unfold slicePick
 rw [h1,h2,h3]
 simp only [sliceRange_one,pick_run,List.size_toArray] <;> rfl
def rSlL (K:W.Frag):V→Option Int→Option Int→Hp→VK→Prop:=fun x lo hi H Q=>∃ a xs,x = .ref a∧SqL K H a xs ∧ ∀ p,H p=none→Q (.ref p) (upd H p (.lst (cutV xs lo hi)))
theorem sl_list:SlR X (rSlL X.K):=by
 intro pins s σ H x v vl vu lo hi sl Q I rx hs pl pu h
 obtain ⟨a,xs,rfl,hx,q⟩:=h
 cases rx
 obtain ⟨its,r,ht,hz⟩:=I.list hx
 have hlen:=r.length
 refine ⟨"list", _,slot_list_getitem.lookup,ht.isList.typeIs,?_⟩
 refine wpAny_getItem_list_slice ht.isList hs pl pu .none (by simp) ?_ (by rw [List.size_toArray] <;> omega)
 rw [slicePick_cut,← hlen]
 refine ⟨.ref s.heap.objs.size,_,I.laid (t':=s.toks) (o:=.lst (cutV xs lo hi)) (fun b ob q=>Heap.get?_push_of_some _ q) (Nat.le_refl _) ?_,rfl,q _ (I.hok.fresh (Nat.le_refl _))⟩
 exact ⟨Nat.le_trans (cutV_length xs lo hi) hz,_,0,(r.drop (HT.sIx xs.length 0 lo)).take (HT.sIx xs.length xs.length hi - HT.sIx xs.length 0 lo),Heap.get?_push_size _ rfl⟩
def flatV:V→Bool
 | .non=>true
 | .bl _=>true
 | .int _=>true
 | .str _=>true
 | _=>false
def eqV:V→V→Bool
 | .non,.non=>true
 | .bl a,.bl b=>a == b
 | .bl a,.int b=>(if a then 1 else 0) == b
 | .int a,.bl b=>a == (if b then 1 else 0)
 | .int a,.int b=>a == b
 | .str a,.str b=>a == b
 | _,_=>false
theorem eqAt_V {A : Around} {s : Shared} {y x : V} {u v : Value} (ry : RelV y u) (rx : RelV x v) (fy : flatV y = true) (fx : flatV x = true) : SeqAt.EqAt A s u v (eqV y x) := by
  cases y with
  | non =>
    cases ry
    cases x with
    | non => cases rx; exact SeqAt.EqAt.same _
    | bl b => cases rx; exact SeqAt.EqAt.none_bool b
    | int b => obtain ⟨t, rfl⟩ := rx; exact SeqAt.EqAt.none_int b t
    | str b => obtain ⟨t, rfl⟩ := rx; exact SeqAt.EqAt.none_str b t
    | _ => exact absurd (show false = true from fx) Bool.false_ne_true
  | bl a =>
    cases ry
    cases x with
    | non => cases rx; exact SeqAt.EqAt.bool_none a
    | bl b => cases rx; exact SeqAt.EqAt.bool_bool a b
    | int b => obtain ⟨t, rfl⟩ := rx; exact SeqAt.EqAt.bool_int a b t
    | str b => obtain ⟨t, rfl⟩ := rx; exact SeqAt.EqAt.bool_str a b t
    | _ => exact absurd (show false = true from fx) Bool.false_ne_true
  | int a =>
    obtain ⟨t', rfl⟩ := ry
    cases x with
    | non => cases rx; exact SeqAt.EqAt.int_none a t'
    | bl b => cases rx; exact SeqAt.EqAt.int_bool a t' b
    | int b => obtain ⟨t, rfl⟩ := rx; exact SeqAt.EqAt.int_int a t' b t
    | str b => obtain ⟨t, rfl⟩ := rx; exact SeqAt.EqAt.int_str a t' b t
    | _ => exact absurd (show false = true from fx) Bool.false_ne_true
  | str a =>
    obtain ⟨t', rfl⟩ := ry
    cases x with
    | non => cases rx; exact SeqAt.EqAt.str_none a t'
    | bl b => cases rx; exact SeqAt.EqAt.str_bool a t' b
    | int b => obtain ⟨t, rfl⟩ := rx; exact SeqAt.EqAt.str_int a t' b t
    | str b => obtain ⟨t, rfl⟩ := rx; exact SeqAt.EqAt.str_str a t' b t
    | _ => exact absurd (show false = true from fx) Bool.false_ne_true
  | _ => exact absurd (show false = true from fy) Bool.false_ne_true
def eqU (x:V) (u:Value):Bool:=match u with
 | .none=>eqV .non x
 | .bool b=>eqV (.bl b) x
 | .int i _=>eqV (.int i) x
 | .str z _=>eqV (.str z) x
 | _=>false
theorem eqU_of {x y:V} {u:Value} (r:RelV y u) (f:flatV y=true):eqU x u=eqV y x:=by
 cases y with
 | non=>cases r;rfl
 | bl b=>cases r;rfl
 | int i=>obtain ⟨t,rfl⟩:=r;rfl
 | str z=>obtain ⟨t,rfl⟩:=r;rfl
 | _=>exact absurd (show false=true from f) Bool.false_ne_true
theorem any_eqU {x : V} : ∀ {xs : List V} {us : List Value}, Vals xs us → xs.all flatV = true → us.any (eqU x) = xs.any fun y => eqV y x
  | _, _, .nil, _ => rfl
  | y :: xs, u :: us, .cons r t, f => by
    rw [List.all_cons, Bool.and_eq_true] at f
    rw [List.any_cons, List.any_cons, eqU_of r f.1, any_eqU t f.2]
theorem mem_eqAt {A : Around} {s : Shared} {x : V} {v : Value} (rx : RelV x v) (fx : flatV x = true) : ∀ {xs : List V} {us : List Value}, Vals xs us → xs.all flatV = true → ∀ u ∈ us, SeqAt.EqAt A s u v (eqU x u)
  | _, _, .nil, _ => fun u hu => by cases hu
  | y :: xs, u :: us, .cons r t, f => fun u' hu => by
    rw [List.all_cons, Bool.and_eq_true] at f
    rcases List.mem_cons.mp hu with rfl | hu
    · rw [eqU_of r f.1]; exact eqAt_V r rx f.1 fx
    · exact mem_eqAt rx fx t f.2 u' hu
def inV (x:V) (xs:List V):Bool:=xs.any fun y=>eqV y x
def rIn (K:W.Frag) (neg:Bool):R2:=fun x y H Q=>∃ p xs,y = .ref p∧(SqL K H p xs∨SqT K H p xs)∧flatV x=true∧xs.all flatV=true∧Q (.bl (if neg then !inV x xs else inV x xs)) H
theorem op_in_seq:OpR X (compareOp .In) (rIn X.K false):=by
 intro pins s σ H x y v u Q I rx ry h
 obtain ⟨p,xs,rfl,hq,fx,fs,q⟩:=h
 cases ry
 rcases hq with hq | hq
 ·obtain ⟨its,r,pl,hz⟩:=I.list hq
  refine SeqAt.in_listAt (eqU x) pl.isList (fun w hw=>mem_eqAt rx fx r fs w (by simpa using hw)) ⟨.bl _,H,I,rfl,?_⟩
  rw [show its.toArray.any (eqU x)=its.any (eqU x) by simp,any_eqU r fs]
  exact q
 ·obtain ⟨its,r,pl,hz⟩:=I.tuple hq
  refine SeqAt.in_tupleAt (eqU x) pl (fun w hw=>mem_eqAt rx fx r fs w (by simpa using hw)) ⟨.bl _,H,I,rfl,?_⟩
  rw [show its.toArray.any (eqU x)=its.any (eqU x) by simp,any_eqU r fs]
  exact q
theorem op_notIn_seq:OpR X (compareOp .NotIn) (rIn X.K true):=by
 intro pins s σ H x y v u Q I rx ry h
 obtain ⟨p,xs,rfl,hq,fx,fs,q⟩:=h
 cases ry
 rcases hq with hq | hq
 ·obtain ⟨its,r,pl,hz⟩:=I.list hq
  refine SeqAt.notIn_listAt (eqU x) pl.isList (fun w hw=>mem_eqAt rx fx r fs w (by simpa using hw)) ⟨.bl _,H,I,rfl,?_⟩
  rw [show its.toArray.any (eqU x)=its.any (eqU x) by simp,any_eqU r fs]
  exact q
 ·obtain ⟨its,r,pl,hz⟩:=I.tuple hq
  refine SeqAt.notIn_tupleAt (eqU x) pl (fun w hw=>mem_eqAt rx fx r fs w (by simpa using hw)) ⟨.bl _,H,I,rfl,?_⟩
  rw [show its.toArray.any (eqU x)=its.any (eqU x) by simp,any_eqU r fs]
  exact q
theorem call_len_seq:CallR X (.builtin "len") (fun xs H Q=>∃ p ys,xs=[.ref p]∧(SqL X.K H p ys∨SqT X.K H p ys)∧Q (.int ys.length) H):=by
 intro pins s σ H xs us Q I r h
 obtain ⟨p,ys,rfl,hq,q⟩:=h
 obtain ⟨u,rfl,rx⟩:=vals1 r
 cases rx
 have hn:=line63
 rcases hq with hq | hq
 ·obtain ⟨its,r',pl,hz⟩:=I.list hq
  have hlen:=r'.length
  exact Calls.call_len_list pl.isList (by simp only [List.size_toArray] <;> omega) ⟨.int ys.length,H,I.tok _,⟨s.toks+1,by rw [List.size_toArray,hlen]⟩,q⟩
 ·obtain ⟨its,r',pl,hz⟩:=I.tuple hq
  have hlen:=r'.length
  exact len_tuple pl (by simp only [List.size_toArray] <;> omega) ⟨.int ys.length,H,I.tok _,⟨s.toks+1,by rw [List.size_toArray,hlen]⟩,q⟩
theorem call_len_str:CallR X (.builtin "len") (fun xs H Q=>∃ z,xs=[.str z]∧z.length≤sizeLine∧Q (.int z.length) H):=by
 intro pins s σ H xs us Q I r h
 obtain ⟨z,rfl,hz,q⟩:=h
 obtain ⟨u,rfl,t,rfl⟩:=vals1 r
 have hn:=line63
 exact len_str (by omega) ⟨.int z.length,H,I.tok _,⟨_,rfl⟩,q⟩
theorem call_list_of:CallR X (.type "list") (fun xs H Q=>∃ p ys,xs=[.ref p]∧(SqL X.K H p ys∨SqT X.K H p ys) ∧ ∀ l,H l=none→Q (.ref l) (upd H l (.lst ys))):=by
 intro pins s σ H xs us Q I r h
 obtain ⟨p,ys,rfl,hq,q⟩:=h
 obtain ⟨u,rfl,rx⟩:=vals1 r
 cases rx
 have fin : ∀ (its:List Value),Vals ys its→ys.length≤sizeLine → ∀ (h':Heap) (c':Nat),(∀ b o',s.heap.get? b=some o'→h'.get? b=some o') →
   h'.get? s.heap.objs.size=some { cls:=.type "list", dict:=none,data:=.seq its.toArray c',slots:=#[] }→EP X pins σ Q (.ref s.heap.objs.size) { s with heap:=h' }:=fun its r' hz h' c' kp e =>
  ⟨.ref s.heap.objs.size,_,I.laid (t':=s.toks) kp (Nat.le_refl _) (show ObjOk X.prog X.w _ h' _ (.lst ys) from ⟨hz,its,c',r',e⟩),rfl,q _ (I.hok.fresh (Nat.le_refl _))⟩
 rcases hq with hq | hq
 ·obtain ⟨its,r',pl,hz⟩:=I.list hq
  have hlen:=r'.length
  obtain ⟨o,ho,hc,n,hd⟩:=pl.isList
  exact call_list_seq p (.inl rfl) ho hc hd (fun h' c' kp e=>fin its r' hz h' c' kp e) (by simp only [List.size_toArray] <;> omega)
 ·obtain ⟨its,r',pl,hz⟩:=I.tuple hq
  have hlen:=r'.length
  obtain ⟨o,ho,hc,n,hd⟩:=pl
  exact call_list_seq p (.inr rfl) ho hc hd (fun h' c' kp e=>fin its r' hz h' c' kp e) (by simp only [List.size_toArray] <;> omega)
def tyV (K:W.Frag) (T:String) (x:V) (H:Hp):Prop:=match x with
 | .str _=>T = "str"
 | .int _=>T = "int"
 | .ref p=>(T = "list" ∧ ∃ xs,SqL K H p xs)∨(T = "tuple" ∧ ∃ o,K.lookup p=some o∧o.cls = .type "tuple" ∧ o.dict=none) ∨
   (T = "dict" ∧ ((∃ kvs,H p=some (.dK kvs)) ∨ ∃ kvs,H p=some (.dT kvs)))∨(T = "set" ∧ ∃ S n,H p=some (.set S n))
 | _=>False
theorem tyV_is {pins : List (Addr × Obj)} {σ : St} {H : Hp} {s : Shared} {T : String} {x : V} {v : Value} (I : Inv X pins σ H s) (r : RelV x v) (ty : tyV X.K T x H) :
    s.TypeIs v T ∧ ∀ a, v = .ref a → ∃ ob, s.heap.get? a = some ob ∧ ob.dict = none := by
  cases x with
  | str z =>
    obtain ⟨t, rfl⟩ := r
    cases (show T = "str" from ty)
    exact ⟨typeIs_str s z t, fun _ e => nomatch e⟩
  | int i =>
    obtain ⟨t, rfl⟩ := r
    cases (show T = "int" from ty)
    exact ⟨typeIs_int s i t, fun _ e => nomatch e⟩
  | ref p =>
    cases r
    rcases ty with ⟨rfl, xs, hq⟩ | ⟨rfl, o, hk, hc, hd⟩ | ⟨rfl, hk⟩ | ⟨rfl, S, n, hk⟩
    · obtain ⟨its, _, pl, _⟩ := I.list hq
      refine ⟨pl.isList.typeIs, fun a e => ?_⟩
      cases e
      obtain ⟨o, n, e, c, hd, _⟩ := pl
      exact ⟨o, e, hd⟩
    · refine ⟨⟨o, I.kIn p o hk, hc⟩, fun a e => ?_⟩
      cases e
      exact ⟨o, I.kIn _ o hk, hd⟩
    · have z : ∃ o, s.heap.get? p = some o ∧ o.ExactDict := by
        rcases hk with ⟨kvs, hk⟩ | ⟨kvs, hk⟩
        · obtain ⟨_, _, _, _, o, _, _, e, ex, _⟩ := I.hok p _ hk
          exact ⟨o, e, ex⟩
        · obtain ⟨_, _, _, _, o, _, _, e, ex, _⟩ := I.hok p _ hk
          exact ⟨o, e, ex⟩
      obtain ⟨o, e, ex⟩ := z
      refine ⟨⟨o, e, ex.1⟩, fun a e2 => ?_⟩
      cases e2
      exact ⟨o, e, ex.2.1⟩
    · obtain ⟨o, _, _, _, e, ex, _⟩ := I.hok p _ hk
      refine ⟨⟨o, e, ex.1⟩, fun a e2 => ?_⟩
      cases e2
      exact ⟨o, e, ex.2.1⟩
  | _ => exact False.elim ty
def tBM0 (K:W.Frag) (T:String) (r:V→List V→Hp→VK→Prop) (to:TE):TE:=fun σ H Q=>to σ H fun x H1=>tyV K T x H1∧r x [] H1 Q
def tBM (K:W.Frag) (T:String) (r:V→List V→Hp→VK→Prop) (to:TE) (t:TA):TE:=fun σ H Q=>to σ H fun x H1=>tyV K T x H1∧t σ H1 fun xs H2=>r x xs H2 Q
variable {o e : Expr} {es : List Expr} {to : TE} {t : TA} {name : Str} {apos cpos : Pos} {T id : String} {r : V → List V → Hp → VK → Prop}
theorem pe_bm0 (pa:PlainAttrs T) (slot:Slot T name id) (hty:typeOf (.builtin id)=pure (.type "method_descriptor")) (hm:MtR X id r) (ho:PE X o to)
  (hbase:attributeBase o name X.env (eval o X.env)=eval o X.env:=by rfl) (hline:(apos.endLine == cpos.line)=true:=by rfl):PE X (.Call (.Attribute o name apos) [] [] cpos) (tBM0 X.K T r to):=by
 intro pins s σ H Q I h
 refine wpAny_Call_method0_late hbase hline (thn (ho pins s σ H _ I h) fun v s1 ⟨x,H1,I1,r1,ty,q1⟩=>?_)
 obtain ⟨h1,h2⟩:=tyV_is I1 r1 ty
 exact ⟨T,id,pa,slot,hty,h1,h2,Calls.callWith_builtin rfl (PySem.evalArgs_none (hm pins s1 σ H1 x [] v [] Q I1 r1 .nil q1))⟩
theorem pe_bm (pa:PlainAttrs T) (slot:Slot T name id) (hty:typeOf (.builtin id)=pure (.type "method_descriptor")) (hm:MtR X id r) (ho:PE X o to) (ha:PA X (e::es) t)
  (hbase:attributeBase o name X.env (eval o X.env)=eval o X.env:=by rfl)
  (hfew:((backTo cpos (starEach (e::es) X.env)).all (fun x=>!x.1) && (backToKw cpos (keywordEach [] X.env)).all (fun x=>x.1.isSome)
   && decide ((e::es).length+([]:List Keyword).length+(if ([]:List Keyword).isEmpty then 0 else 1) < 30))=true:=by rfl)
  (hline:(apos.endLine == cpos.line)=true:=by rfl) (hs:starEach (e::es) X.env=(false,eval e X.env)::starEach es X.env:=by rfl) (hplain:(backTo cpos (starEach es X.env)).any (·.1)=false:=by rfl) :
  PE X (.Call (.Attribute o name apos) (e::es) [] cpos) (tBM X.K T r to t):=by
 intro pins s σ H Q I h
 refine wpAny_Call_method_late hbase hfew hline rfl (thn (ho pins s σ H _ I h) fun v s1 ⟨x,H1,I1,r1,ty,q1⟩=>?_)
 obtain ⟨h1,h2⟩:=tyV_is I1 r1 ty
 refine ⟨T,id,pa,slot,hty,h1,h2,?_⟩
 have hA:=ha cpos pins s1 σ H1 _ I1 q1
 rw [hs] at hA ⊢
 refine Calls.callWith_builtin (by show (false || (backTo cpos (starEach es X.env)).any (·.1))=false;rw [hplain] <;> rfl) (Calls.evalArgs_plain ?_)
 exact thn hA fun us s2 ⟨vs,H2,I2,r2,q2⟩=>hm pins s2 σ H2 x vs v us Q I2 r1 r2 q2
end
def MtM (X:Cx) (id:String) (r:V→List V→Hp→VK→Prop):Prop:=
 ∀ (pins:List (Addr × Obj)) (s:Shared) (σ:St) (H:Hp) (x:V) (xs:List V) (v:Value) (us:List Value) (Q:VK),Inv X pins σ H s→RelV x v→Vals xs us→r x xs H Q →
  wpAny (model X.prog X.w) X.A (call (.builtin id) (v::us)) (EP X pins σ Q) X.xe s
theorem Vals.one : ∀ {x:V} {us:List Value},Vals [x] us → ∃ u,us=[u]∧RelV x u
 | _,_,.cons r .nil=>⟨_,rfl,r⟩
theorem Vals.zero : ∀ {us:List Value},Vals [] us→us=[]
 | _,.nil=>rfl
theorem Vals.dropLast {xs : List V} {us : List Value} (h : Vals xs us) : Vals xs.dropLast us.dropLast := by
  induction h with
  | nil => exact .nil
  | cons r t ih =>
    cases t with
    | nil => exact .nil
    | cons q t' => exact .cons r ih
theorem Vals.eraseIdx : ∀ {xs:List V} {us:List Value} (i:Nat),Vals xs us→Vals (xs.eraseIdx i) (us.eraseIdx i)
 | _,_,_,.nil=>.nil
 | _,_,0,.cons _ t=>t
 | _,_,i+1,.cons r t=>.cons r (Vals.eraseIdx i t)
theorem Vals.reverse {xs:List V} {us:List Value} (h:Vals xs us):Vals xs.reverse us.reverse:=by
 induction h with
 | nil=>exact .nil
 | cons r t ih=>rw [List.reverse_cons,List.reverse_cons];exact Vals.append ih (.cons r .nil)
theorem Vals.rep {xs : List V} {us : List Value} (h : Vals xs us) : ∀ k : Nat, Vals (List.replicate k xs).flatten (List.replicate k us).flatten
  | 0 => .nil
  | k + 1 => by
    rw [List.replicate_succ, List.replicate_succ, List.flatten_cons, List.flatten_cons]
    exact Vals.append h (Vals.rep h k)
theorem erase_last {α : Type} (l : List α) : l.eraseIdx (l.length - 1) = l.dropLast := by
  induction l with
  | nil => rfl
  | cons a r ih =>
    cases r with
    | nil => rfl
    | cons b r =>
      have e : (a :: b :: r).length - 1 = ((b :: r).length - 1) + 1 := by
        have h1 : (a :: b :: r).length = r.length + 2 := rfl
        have h2 : (b :: r).length = r.length + 1 := rfl
        omega
      rw [e, List.eraseIdx_cons_succ, ih]
      all_goals rfl
section
variable {X : Cx} {pins : List (Addr × Obj)} {σ : St} {H : Hp} {s : Shared} {l b : Addr} {xs ys zs : List V}
theorem Inv.lset {its its':List Value} {n:Nat} {f:Array Value→Array Value} {t':Nat} (I:Inv X pins σ H s) (hH:H l=some (.lst xs))
  (e:s.heap.get? l=some { cls:=.type "list", data:=.seq its.toArray n }) (hf:f its.toArray=its'.toArray) (hv:Vals ys its') (hz:ys.length≤sizeLine) :
  Inv X pins σ (upd H l (.lst ys)) { s with heap:=s.heap.update l (Obj.mapSeq f),toks:=t' }:=by
 have q:=PySem.IsL.update e f
 rw [hf] at q
 refine I.write (x:=l) (e:=l) (by rw [hH];exact trivial) (.inl rfl) (fun b' u hb hu=>(Heap.get?_update_other s.heap (Obj.mapSeq f) (Ne.symm hb)).trans hu) ⟨_,q⟩ ?_
 exact ⟨hz,its',_,hv,q⟩
theorem Inv.lnew {its:List Value} {t':Nat} (I:Inv X pins σ H s) (hv:Vals ys its) (hz:ys.length≤sizeLine) :
  Inv X pins σ (upd H s.heap.objs.size (.lst ys)) { s with heap:=s.heap.push { cls:=.type "list", data:=.seq its.toArray },toks:=t' }:=
 I.laid (fun _ _ q=>Heap.get?_push_of_some _ q) (Nat.le_refl _) ⟨hz,its,0,hv,Heap.get?_push_size _ rfl⟩
theorem Inv.fresh (I:Inv X pins σ H s):H s.heap.objs.size=none:=I.hok.fresh (Nat.le_refl _)
theorem Inv.lstM (I:Inv X pins σ H s) (hH:H l=some (.lst xs)):xs.length≤sizeLine ∧ ∃ (its:List Value) (n:Nat),Vals xs its∧xs.length=its.length∧s.heap.get? l=some { cls:=.type "list", data:=.seq its.toArray n }:=by
 obtain ⟨z,its,n,r,e⟩:=I.hok l _ hH
 exact ⟨z,its,n,r,r.length,e⟩
theorem notLongL {n:Nat} (h:n≤sizeLine):Builtin.List.listTooLong n=false:=by
 unfold Builtin.List.listTooLong
 exact decide_eq_false (by omega)
end
section
variable {X : Cx}
def rAppend:V→List V→Hp→VK→Prop:=fun x vs H Q=>∃ l xs y,x = .ref l∧vs=[y]∧H l=some (.lst xs)∧xs.length < sizeLine∧Q .non (upd H l (.lst (xs++[y])))
theorem mt_append:MtM X "list.append" rAppend:=by
 intro pins s σ H x vs v us Q I rx rv h
 obtain ⟨l,xs,y,rfl,rfl,hH,hz,q⟩:=h
 cases rx
 obtain ⟨u,rfl,ru⟩:=rv.one
 obtain ⟨z,its,n,r,hl,e⟩:=I.lstM hH
 refine call_meets F.slot_list_append ⟨_,e,rfl⟩ F.entry_list_append (F.args_list_append_2 _ _) (PySem.list_append l its.toArray n u (by rw [List.size_toArray];omega)) ⟨e,?_⟩
 refine ⟨.non,_,I.lset (its':=its++[u]) hH e (by simp) (r.append (.cons ru .nil)) ?_,rfl,q⟩
 rw [List.length_append,List.length_singleton]
 omega
def rExtend:V→List V→Hp→VK→Prop:=fun x vs H Q=>∃ l b xs zs,x = .ref l∧vs=[.ref b]∧H l=some (.lst xs)∧H b=some (.lst zs)∧xs.length+zs.length≤sizeLine∧Q .non (upd H l (.lst (xs++zs)))
theorem mt_extend:MtM X "list.extend" rExtend:=by
 intro pins s σ H x vs v us Q I rx rv h
 obtain ⟨l,b,xs,zs,rfl,rfl,hH,hB,hz,q⟩:=h
 cases rx
 obtain ⟨u,rfl,ru⟩:=rv.one
 cases ru
 obtain ⟨z,its,n,r,hl,e⟩:=I.lstM hH
 obtain ⟨z2,its2,n2,r2,hl2,e2⟩:=I.lstM hB
 have hsz:its.toArray.size+its2.toArray.size≤sizeLine:=by rw [List.size_toArray,List.size_toArray];omega
 have hlong : ¬ (!its.toArray.isEmpty && Builtin.List.listTooLong (its.toArray.size+its2.toArray.size))=true:=by
  rw [notLongL hsz,Bool.and_false]
  exact Bool.false_ne_true
 refine call_meets F.slot_list_extend ⟨_,e,rfl⟩ F.entry_list_extend (F.args_list_extend_2 _ _)
  (AutoSeq1.list_extend_list_list_0 l its.toArray n b its2.toArray n2 hlong (by rw [List.size_toArray];omega) (by omega)) ⟨e,e2,?_⟩
 refine ⟨.non,_,I.lset (its':=its++its2) hH e (by simp) (r.append r2) ?_,rfl,q⟩
 rw [List.length_append]
 omega
def rPop:V→List V→Hp→VK→Prop:=fun x vs H Q=>∃ l xs y,x = .ref l∧vs=[]∧H l=some (.lst xs)∧xs[xs.length - 1]? = some y∧Q y (upd H l (.lst xs.dropLast))
theorem mt_pop:MtM X "list.pop" rPop:=by
 intro pins s σ H x vs v us Q I rx rv h
 obtain ⟨l,xs,y,rfl,rfl,hH,hy,q⟩:=h
 cases rx
 have hus:=rv.zero
 subst hus
 obtain ⟨z,its,n,r,hl,e⟩:=I.lstM hH
 obtain ⟨u,hu,ru⟩:=r.get hy
 have hy':its.toArray[its.toArray.size - 1]? = some u:=by
  show its.toArray[its.length - 1]? = some u
  rw [← Array.getElem?_toList,← hl]
  exact hu
 refine call_meets F.slot_list_pop ⟨_,e,rfl⟩ F.entry_list_pop (F.args_list_pop_1 _) (MeetsSeq.list_pop_last l its.toArray n u hy' (by rw [List.size_toArray];omega)) ⟨e,?_⟩
 refine ⟨y,_,I.lset (its':=its.dropLast) hH e ?_ r.dropLast ?_,ru,q⟩
 ·show its.toArray.eraseIdxIfInBounds (its.toArray.size - 1)=its.dropLast.toArray
  rw [List.size_toArray,List.eraseIdxIfInBounds_toArray,erase_last]
 ·rw [List.length_dropLast]
  omega
def rReverse:V→List V→Hp→VK→Prop:=fun x vs H Q=>∃ l xs,x = .ref l∧vs=[]∧H l=some (.lst xs)∧Q .non (upd H l (.lst xs.reverse))
theorem mt_reverse:MtM X "list.reverse" rReverse:=by
 intro pins s σ H x vs v us Q I rx rv h
 obtain ⟨l,xs,rfl,rfl,hH,q⟩:=h
 cases rx
 have hus:=rv.zero
 subst hus
 obtain ⟨z,its,n,r,hl,e⟩:=I.lstM hH
 refine call_meets F.slot_list_reverse ⟨_,e,rfl⟩ F.entry_list_reverse (F.args_list_reverse_1 _) (AutoSeq1.list_reverse_list_0 l its.toArray n (by rw [List.size_toArray];omega)) ⟨e,?_⟩
 refine ⟨.non,_,I.lset (its':=its.reverse) hH e (by simp) r.reverse ?_,rfl,q⟩
 rw [List.length_reverse]
 omega
def rCat:R2:=fun x y H Q=>∃ l b xs zs,x = .ref l∧y = .ref b∧H l=some (.lst xs)∧H b=some (.lst zs)∧xs.length+zs.length≤sizeLine ∧ ∀ p,H p=none→Q (.ref p) (upd H p (.lst (xs++zs)))
theorem op_cat:OpR X (binaryOp .Add) rCat:=by
 intro pins s σ H x y v u Q I rx ry h
 obtain ⟨l,b,xs,zs,rfl,rfl,hH,hB,hz,q⟩:=h
 cases rx
 cases ry
 obtain ⟨z,its,n,r,hl,e⟩:=I.lstM hH
 obtain ⟨z2,its2,n2,r2,hl2,e2⟩:=I.lstM hB
 refine PySem.P.add_list e e2 ?_ (by rw [List.size_toArray,List.size_toArray];omega)
 have ea:its.toArray++its2.toArray=(its++its2).toArray:=by simp
 rw [ea]
 exact ⟨.ref _,_,I.lnew (t':=s.toks) (r.append r2) (by rw [List.length_append];omega),rfl,q _ I.fresh⟩
end
section
variable {prog : Program} {w : World} {A : Around} {E : Value → Shared → Prop} {s : Shared}
theorem bounds_run {a c n:Nat} (hac:a≤c) (hc:c≤n):sliceBounds (some (a:Int)) (some (c:Int)) none n=((a:Int),(c:Int),1):=by
 simp only [sliceBounds,Option.getD_none]
 have h1 : ¬ ((a:Int) < 0):=by omega
 have h2 : ¬ ((c:Int) < 0):=by omega
 simp only [h1,h2,if_false,show (1:Int) > 0 by decide,if_true]
 congr 1
 ·omega
 ·congr 1;omega
set_option maxRecDepth 100000 in
theorem setItem_slice {l b sl : Addr} {items new : Array Value} {n n2 : Nat} {vl vu : Value} {a c : Nat} {Q : Unit → Shared → Prop}
    (e : s.heap.get? l = some { cls := .type "list", data := .seq items n }) (e2 : s.heap.get? b = some { cls := .type "list", data := .seq new n2 }) (hne : l ≠ b)
    (hs : s.heap.IsSliceOf sl vl vu .none) (pl : IsPart vl (some (a : Int))) (pu : IsPart vu (some (c : Int))) (hac : a ≤ c) (hc : c ≤ items.size)
    (hsz : items.size + new.size ≤ sizeLine) (h : Q () { s with heap := s.heap.update l (Obj.mapSeq fun xs => xs.extract 0 a ++ new ++ xs.extract c xs.size) }) :
    wpAny (model prog w) A (setItem (.ref l) (.ref sl) (.ref b)) Q E s := by
  have hl : s.heap.IsList l items := PySem.IsL.isList e
  have hb : s.heap.IsList b new := PySem.IsL.isList e2
  obtain ⟨os, hos, hcs, hds⟩ := id hs
  have hTs : s.TypeIs (.ref sl) "slice" := ⟨os, hos, hcs⟩
  have hstep : ¬ ((rawPart none == rawInt 0) = true) := Bool.false_ne_true
  have hsame : Builtin.List.listSameRef (.ref l) (.ref b) = false := by
    unfold Builtin.List.listSameRef
    exact beq_eq_false_iff_ne.mpr hne
  have hmax : (max (a : Int) (c : Int)).toNat = c := by omega
  have hz' : ((fun xs : Array Value => xs.extract 0 a ++ new ++ xs.extract c xs.size) items).size ≤ sizeLine + 1 := by
    simp only [Array.size_append, Array.size_extract]
    omega
  unfold setItem
  try with_reducible refine wpAny_holding ?_
  first | refine wpAny_bind (wpAny_pure ?_) | skip
  refine wpAny_bind (wpAny_sequenceKey hl.typeIs (by decide) ?_)
  refine wpAny_bind (wpAny_callSpecial?_slot (name := Str.ofString "__setitem__") hl.typeIs slot_list_setitem
    (wpAny_call_entry slot_list_setitem hl.typeIs entry_list_setitem ?_ (args_list_setitem _ _ _)))
  show wpAny _ _ (Builtin.List.listSubscript? (.ref sl) >>= _) _ _ s
  refine wpAny_bind ?_
  unfold Builtin.List.listSubscript?
  refine wpAny_bind (wpAny_specialOf hTs slice_no_index ?_)
  simp only [Option.isNone_none, if_true]
  refine wpAny_pure ?_
  show wpAny _ _ (typeOf (.ref sl) >>= _) _ _ s
  refine wpAny_bind (wpAny_typeOf hTs ?_)
  first
    | rw [if_neg (by decide)]
    | refine W.KFB.if_not (by decide) ?_
  rw [listSliceParts_eq]
  refine wpAny_bind (wpAny_bind (wpAny_field hos hds (x := .none) rfl (wpAny_bind (wpAny_listPart .none ?_))))
  rw [if_neg hstep]
  refine wpAny_bind (wpAny_field hos hds (x := vl) rfl (wpAny_bind (wpAny_listPart pl ?_)))
  refine wpAny_bind (wpAny_field hos hds (x := vu) rfl (wpAny_bind (wpAny_listPart pu (wpAny_pure ?_))))
  first
    | simp only [hsame, Bool.false_eq_true, if_false]
    | refine W.KFB.if_not hsame ?_
    | (dsimp only
       rw [if_neg (by rw [hsame]; exact Bool.false_ne_true)])
  refine wpAny_bind (m := Builtin.List.listAllItems (.ref b) "must assign iterable to extended slice") ?_
  unfold Builtin.List.listAllItems
  refine wpAny_bind (wpAny_typeOf hb.typeIs ?_)
  first
    | refine W.KFB.if_so (by decide) ?_
    | rw [if_pos (by decide)]
    | simp only [beq_self_eq_true, Bool.true_or, if_true]
  unfold Builtin.List.listItems
  refine wpAny_bind (wpAny_seqItems e2 rfl (wpAny_pure ?_))
  refine wpAny_bind (wpAny_bind (wpAny_seqItems e rfl (wpAny_pure ?_)))
  refine wpAny_bind (wpAny_of_eq ((sliceIndices_raw (some (a : Int)) (some (c : Int)) none items.size (by simp)).trans (congrArg (pure : Int × Int × Int → Sem (Int × Int × Int)) (bounds_run hac hc))) ?_)
  show wpAny _ _ (if ((1 : Int) == 1) = true then _ else _) _ _ s
  rw [if_pos (by decide)]
  refine wpAny_bind (wpAny_rule ?_)
  first
    | simp only [notLongL hsz, Bool.false_eq_true, if_false]
    | refine W.KFB.if_not (notLongL hsz) ?_
  first | refine wpAny_bind (wpAny_pure ?_) | skip
  show wpAny _ _ (updateSeq l (fun xs => xs.extract 0 ((a : Int)).toNat ++ new ++ xs.extract (max (a : Int) (c : Int)).toNat xs.size) >>= _) _ _ s
  rw [hmax, Int.toNat_natCast]
  refine wpAny_bind (wpAny_updateSeq (hz := Nat.le_trans (Nat.le_add_right _ _) hsz) (_hz' := hz') e rfl ?_)
  refine wpAny_bind (wpAny_letGo ?_)
  first
    | exact wpAny_bind (wpAny_pure (wpAny_pure ⟨.none, rfl, wpAny_pure h⟩))
    | exact wpAny_pure ⟨.none, rfl, wpAny_pure h⟩
end
end L2
namespace Att
open PySem PySem.W PySem.Calls PyProof.Rows
theorem ints_of_wellAll {P : Params} {h : Heap} : ∀ (ns : List Int) (vs : List Value), WellAll P h vs (ns.map WData.int) → IntsAre vs ns := by
  intro ns
  induction ns with
  | nil =>
    intro vs w
    rw [List.map_nil] at w
    cases w
    exact .nil
  | cons n ns ih =>
    intro vs w
    rw [List.map_cons] at w
    cases w with
    | cons a b =>
      cases a
      exact .cons _ _ (ih _ b)
theorem script_of {l : OpenLaw} {n : Nat} (hn : l.most = some n) {P : Params} {h : Heap} {args : List WData} {vals : List Value}
    (hpre : l.row.toRowW.claim.pre args = true) (hwl : WellAll P h vals args) :
    ∃ a vs ns, vals = [Value.ref a] ∧ args = [WData.list (ns.map WData.int)] ∧ h.get? a = some { cls := .type "list", data := .seq vs.toArray } ∧ IntsAre vs ns ∧ ns.length ≤ n := by
  have hsh : WShape.hasAll [] args [.list .int] = true := (pre_splitW hpre).1
  have hc : l.pre.holds [] { args := args } = true := (pre_splitW hpre).2
  obtain ⟨d, r, rfl, h1, h2⟩ := hasAllW_cons hsh
  obtain rfl := hasAllW_nil h2
  obtain ⟨xs, rfl, h3⟩ := hasW_list h1
  obtain ⟨ns, rfl⟩ := items_int h3
  have hlen : ns.length ≤ n := by
    unfold OpenLaw.pre at hc
    have h4 : (WTm.not (.lt (.lit (.int (n : Int))) (.len (.arg 0)))).holds [] { args := [.list (ns.map .int)] } = true := by
      have h4 := (holds_andW hc).1
      rw [hn] at h4
      exact h4
    have h5 := condW_of h4 (w_not (w_lt w_lit (w_len_list (w_arg rfl))))
    rw [List.length_map] at h5
    refine Nat.le_of_not_lt fun q => ?_
    have q' : (n : Int) < ((ns.length : Nat) : Int) := by omega
    first
      | (rw [decide_eq_true q'] at h5; exact absurd h5 (by decide))
      | (simp at h5; omega)
  cases hwl with
  | cons w1 w2 =>
    cases w2
    cases w1 with
    | list ho hall => exact ⟨_, _, ns, rfl, rfl, ho, ints_of_wellAll ns _ hall, hlen⟩
theorem post_true (l:OpenLaw) (args:List WData):l.row.toRowW.claim.post args (.bool true) args=true:=
 postW_of (r:=l.row.toRowW) (X:=(true == true))
  (show WShape.has [] (.bool true) .bool=true by first | rfl | decide | simp [WShape.has,WShape.arms,WShape.armsAll])
  (show (WTm.eq .res (.lit (.bool true))).value [] { args:=args,res:=some (.bool true),after:=args }=some (.bool (true == true)) from w_eq_bool (w_res rfl) w_lit) rfl
theorem attach_call {l:OpenLaw} {n:Nat} {q:Program} {loose:List Str} {XP:(Str→Option Value)→Heap→Prop} {YP:World→Heap→Prop} {d:DefRec}
  (hn:l.most=some n) (hdf:d.params.defaults=[])
  (call : ∀ (w:World) (s₀ s₁:Shared) (mg mb:Str→Option Value) (fa:Addr) (o:Obj) (pm cd doc:Value) (a:Addr) (vs:List Value) (ns:List Int),
   Ground q loose [] XP w s₀ mg mb s₁.heap→YP w s₁.heap →
   s₁.heap.get? fa=some o→o.data = .func (docDef d.name d.params d.body d.scope pm cd doc)→s₁.heap.CodeRec cd d.name→mg d.name=some (.ref fa) →
   s₁.heap.get? a=some { cls:=.type "list", data:=.seq vs.toArray }→IntsAre vs ns→ns.length≤n→s₁.gens = #[] →
   codeAny (model l.prog w) callerA (.call (.ref fa) ⟨[.ref a],[]⟩) (fun r s'=>r = .ok (.ret (.bool true))∧OldK s₁.heap s'.heap∧s'.os=s₁.os∧AllBare s'.gens) s₁) :
  WalkO q loose XP YP l.row.toRowW d [] (fun f vs=>PySem.call f vs):=by
 intro w s₀ s₁ mg mb G Y fa o pm cd doc dV kV ho hd hcd hD hmg hg args vals as hpre hlay hrd hwl hlo
 obtain rfl:dV = .none:=Dflts.none hD hdf
 obtain rfl:kV = .none:=Dflts.noKw hD
 obtain ⟨a,vs,ns,rfl,rfl,hobj,hints,hlen⟩:=script_of hn hpre hwl
 refine enter_call (codeAny_mono (call w s₀ s₁ mg mb fa o pm cd doc a vs ns G Y ho (fd_plain hd) hcd hmg hobj hints hlen hg) fun r s' hq=>?_)
 obtain ⟨rfl,h2,h3,h4⟩:=hq
 exact ⟨.inl ⟨.bool true,.bool true,[],rfl,fun _=>rfl,.bool true,post_true l _,fun _=>⟨List.Pairwise.nil,fun _ hm=>(nomatch hm)⟩⟩,h2,h3,h4⟩
end Att
namespace L2
open PySem PySem.Spec PyProof.Rows
theorem vals_ints : ∀ {vs:List Value} {ns:List Int},IntsAre vs ns→Vals (ns.map V.int) vs
 | _,_,.nil=>.nil
 | _,_,.cons n t h=>.cons ⟨t,rfl⟩ (vals_ints h)
def Only (H:Hp):Prop:=∀ b,H b=none ∨ ∃ o xs,H b=some (.frz o (.lst xs))
theorem law_call {P : Program} {w : World} {K : W.Frag} {mg mb : Str → Option Value} {CX : CXT} {k : Nat} {fa a : Addr} {fd : FuncData} {x : Str} {sp : Sp} {s₁ : Shared} {vs : List Value} {ns : List Int}
    (KX : K.In s₁.heap) (hns : s₁.heap.Ns mainGlobals mg) (hb : s₁.heap.Ns builtinsNs mb) (hbb : ∀ x : Str, x ≠ "__name__" → mb x = bootBuiltins x) (hlim : s₁.heap.NoLimit) (hg : s₁.gens = #[])
    (ha : s₁.heap.get? a = some { cls := .type "list", data := .seq vs.toArray }) (hi : IntsAre vs ns) (hl : ns.length ≤ sizeLine) (hr : Room k callerA)
    (F : ∀ base : Heap, K.In base → base.Ns mainGlobals mg → FnOk P w K mg base CX k fa fd [x] sp) (hbind : ∀ (s : Shared) (u : Value), BindsTo s fd ⟨[u], []⟩ [(x, u)])
    (hsp : ∀ H : Hp, Only H → SqL K H a (ns.map V.int) → sp [.ref a] H (fun v _ => v = .bl true) fun _ _ _ => False)
    (hCX : ∀ H e s', CX [] H s₁ (fun _ _ _ => False) e s' → False) :
    codeAny (model P w) callerA (.call (.ref fa) ⟨[.ref a], []⟩) (fun r s' => r = .ok (.ret (.bool true)) ∧ OldK s₁.heap s'.heap ∧ s'.os = s₁.os ∧ AllBare s'.gens) s₁ := by
  have rv := vals_ints hi
  have lenV := hi.length
  have core : ∀ H : Hp, Only H → SqL K H a (ns.map V.int) → HOk P w H s₁.heap → (∀ b, H b ≠ none → b = a) → (H a ≠ none → K.lookup a = none) →
      codeAny (model P w) callerA (.call (.ref fa) ⟨[.ref a], []⟩) (fun r s' => r = .ok (.ret (.bool true)) ∧ OldK s₁.heap s'.heap ∧ s'.os = s₁.os ∧ AllBare s'.gens) s₁ := by
    intro H hO hS hok hA hK
    have base_of : ∀ {b : Addr} {o : Obj}, s₁.heap.get? b = some o → H b = none → (hidT s₁.heap H).get? b = some o := fun e n => hidT_get e n
    have noA : ∀ {b : Addr} {o : Obj} {es : Array DictEntry} {ep : Nat}, s₁.heap.get? b = some o → o.data = .dict es ep → H b = none := fun {b o es ep} e d => by
      cases q : H b with
      | none => rfl
      | some u =>
        have e' : b = a := hA b (by rw [q]; simp)
        subst e'
        rw [ha] at e; cases e
        have d' : Data.seq vs.toArray _ = Data.dict es ep := d
        cases d'
    have nsK : ∀ {b : Addr} {m : Str → Option Value}, s₁.heap.Ns b m → (hidT s₁.heap H).Ns b m := fun {b m} ⟨o, es, ep, e, d, r⟩ => ⟨o, es, ep, base_of e (noA e d), d, r⟩
    have hKb : K.In (hidT s₁.heap H) := fun b o e => base_of (KX b o e) (by
      cases q : H b with
      | none => rfl
      | some u =>
        have e' : b = a := hA b (by rw [q]; simp)
        subst e'
        rw [hK (by rw [q]; simp)] at e; cases e)
    have hM : Mod K mg (hidT s₁.heap H) := ⟨hKb, nsK hns, ⟨mb, nsK hb, hbb⟩, let ⟨mc, h1, h2⟩ := hlim; ⟨mc, nsK h1, h2⟩⟩
    have e0 : Env0 P w K mg (hidT s₁.heap H) callerA [] s₁ H := ⟨rfl, hM, fun b o e => of_hidT e, Nat.le_of_eq (hidT_size _ _), trivial, fun b hb => absurd (show b ∈ ([] : List Addr) from hb) (by simp), hok, .of_eq hg⟩
    refine codeAny_mono ((F _ hKb (nsK hns)).run callerA [] s₁ H ⟨[.ref a], []⟩ [.ref a] [.ref a] _ _ hr e0 (hbind s₁ (.ref a)) (.cons rfl .nil) (hsp H hO hS)) fun r s' h => ?_
    cases r with
    | error e => exact (hCX H e s' h).elim
    | ok fl =>
      cases fl with
      | next => exact False.elim h
      | brk => exact False.elim h
      | cont => exact False.elim h
      | ret u =>
        obtain ⟨v, H', os, bare, un, hok', r', q⟩ := h
        have q' : v = .bl true := q
        subst q'
        obtain rfl : u = Value.bool true := r'
        refine ⟨rfl, OldK.of_keep fun b o e => ?_, os, bare⟩
        cases q : H b with
        | none => exact un.keep b o e q (by intro z; exact absurd (show b ∈ ([] : List Addr) from z) (by simp)) (by simp)
        | some u =>
          rcases hO b with z | ⟨ob, xs, z⟩
          · rw [q] at z; cases z
          · have z2 := un.frzs b ob _ z
            obtain ⟨e1, _⟩ := hok b _ z
            obtain ⟨e2, _⟩ := hok' b _ z2
            rw [e] at e1; cases e1
            exact e2
  cases hk : K.lookup a with
  | some o =>
    have e := KX a o hk
    rw [ha] at e
    cases e
    refine core (fun _ => none) (fun _ => .inl rfl) (.inr ⟨_, vs.toArray, _, hk, rfl, rfl, rfl, by rw [List.size_toArray, lenV]; exact hl, by simpa using rv⟩) (fun b u z => by have z' : (none : Option HO) = some u := z; cases z') (fun b z => absurd rfl z) fun z => absurd rfl z
  | none =>
    refine core (fun b => if b = a then some (.frz { cls := .type "list", data := .seq vs.toArray } (.lst (ns.map V.int))) else none) (fun b => ?_) (.inl (.inr ⟨{ cls := .type "list", data := .seq vs.toArray }, if_pos rfl⟩)) (fun b u z => ?_) (fun b z => ?_) fun _ => hk
    · by_cases hb : b = a
      · exact .inr ⟨_, _, if_pos hb⟩
      · exact .inl (if_neg hb)
    · by_cases hb : b = a
      · have z' := (if_pos hb).symm.trans z
        cases z'
        subst hb
        exact ⟨ha, by rw [List.length_map]; exact hl, vs, _, rv, ha⟩
      · have z' := (if_neg hb).symm.trans z
        cases z'
    · by_cases hb : b = a
      · exact hb
      · exact absurd (if_neg hb) z
abbrev KOf {K:W.Frag} {h:Heap} (_:K.In h):W.Frag:=K
theorem walk_of {l:W.OpenLaw} {n k:Nat} {q:Program} {loose:List Str} {XP:(Str→Option Value)→Heap→Prop} {YP:World→Heap→Prop} {d:DefRec} {K:Params→W.Frag} {CX:World→CXT} {sp:World→Sp} {x:Str}
  (hn:l.most=some n) (hn2:n≤sizeLine) (hdf:d.params.defaults=[]) (hr:Room k callerA)
  (hY : ∀ (w:World) (h:Heap),YP w h→(K w.params).In h)
  (F : ∀ (w:World) (mg:Str→Option Value) (fa:Addr) (h:Heap),(K w.params).In h→h.Ns mainGlobals mg→mg d.name=some (.ref fa) →
   ∃ fd:FuncData,(∀ (s:Shared) (u:Value),BindsTo s fd ⟨[u],[]⟩ [(x,u)]) ∧
    ∀ base:Heap,(K w.params).In base→base.Ns mainGlobals mg→FnOk l.prog w (K w.params) mg base (CX w) k fa fd [x] (sp w))
  (hsp : ∀ (w:World) (H:Hp) (a:Addr) (ns:List Int),ns.length≤n→Only H→SqL (K w.params) H a (ns.map V.int)→sp w [.ref a] H (fun v _=>v = .bl true) fun _ _ _=>False)
  (hCX : ∀ (w:World) (H:Hp) (s:Shared) (e:Value) (s':Shared),CX w [] H s (fun _ _ _=>False) e s'→False) :
  W.WalkO q loose XP YP l.row.toRowW d [] (fun f vs=>PySem.call f vs):=by
 refine Att.attach_call hn hdf fun w s₀ s₁ mg mb fa o pm cd doc a vs ns G Y ho hd hcd hmg hobj hints hlen hg=>?_
 have KX:=hY w _ Y
 obtain ⟨fd,hb,hF⟩:=F w mg fa _ KX G.T.g hmg
 exact law_call KX G.T.g G.T.b G.T.builtins G.T.nolimit hg hobj hints (Nat.le_trans hlen hn2) hr hF hb (fun H hO hS=>hsp w H a ns hlen hO hS) fun H e s'=>hCX w H s₁ e s'
def inClass (s:Stmt) (j:Nat):Stmt:=match s with
 | .ClassDef _ _ _ body _ _ _ _ _ _ _=>body.getD j (.Pass ⟨0,0,0,0⟩)
 | _=>.Pass ⟨0,0,0,0⟩
def defArgs (s:Stmt):Arguments:=match s with
 | .FunctionDef _ a _ _ _ _ _ _ _ _=>a
 | _=>{ posonlyargs:=[],args:=[],vararg:=none,kwonlyargs:=[],kw_defaults:=[],kwarg:=none,defaults:=[] }
def defBody (s:Stmt):List Stmt:=match s with
 | .FunctionDef _ _ b _ _ _ _ _ _ _=>b
 | _=>[]
def defScope (s:Stmt):Scope:=match s with
 | .FunctionDef _ _ _ _ _ _ sc _ _ _=>sc
 | _=>{ kind:=.function,names:=[],isGenerator:=false,isCoroutine:=false }
abbrev CX0:CXT:=fun _ _ _ _ _ _=>False
abbrev E0:XK:=fun _ _ _=>False
theorem pass0 {X:Cx}:Passes CX0 X E0:=fun _ _ _ _ _ _ _ h=>h.elim
structure Fun (K:W.Frag) (x qual:Str) (st:Stmt) (f:Addr) (fd:FuncData):Prop where
 ex : ∃ (oc:Value) (od:Option Addr) (kV doc pm:Value) (an:Option Addr) (cdv ct:Value) (osl:Array (Option Value)),
  fd=W.fnOf x qual (defArgs st) (defBody st) (defScope st) .none kV doc pm an cdv ct∧K.lookup f=some ⟨oc,od,.func fd,osl⟩∧W.codeIn K cdv qual=true
 kp:W.keepIn K (.ref f)=true
section
variable {P : Program} {w : World} {K : W.Frag} {mg : Str → Option Value} {base : Heap}
theorem Fun.ok {x qual:Str} {st:Stmt} {f:Addr} {fd:FuncData} {N ps:List Str} {k:Nat} {sp:Sp} (F:Fun K x qual st f fd) (S:FnScope N ps (defScope st)) (len : ∀ vs H Q E,sp vs H Q E→vs.length=ps.length)
  (hbody : ∀ (cdv:Value) (A:Around) (outer:List Env) (s:Shared) (H:Hp) (vs:List V) (Q:VK) (E:XK),Room k (A.deeper (envOfC qual (defScope st) s.heap.objs.size f cdv))→sp vs H Q E →
   ∃ t,PSs (cxOf CX0 P w K mg base N qual (defScope st) f cdv A outer s H E).nox (defBody st) t∧t { nx:=fun _ H'=>Q .non H',rt:=Q } (start N vs) H):FnOk P w K mg base CX0 (k+1) f fd ps sp:=by
 obtain ⟨oc,od,kV,doc,pm,an,cdv,ct,osl,rfl,lk,hcd⟩:=F.ex
 refine fn_of lk hcd S len fun A outer s H vs Q E hr hsp=>?_
 obtain ⟨t,h,q⟩:=hbody cdv A outer s H vs Q E hr hsp
 exact ⟨t,h.nox,q⟩
theorem Fun.binds {x qual:Str} {st:Stmt} {f:Addr} {fd:FuncData} {ps:List Str} (F:Fun K x qual st f fd)
  (h : ∀ (kV doc pm:Value) (an:Option Addr) (cdv ct:Value) (us:List Value),us.length=ps.length→bindArgs (W.fnOf x qual (defArgs st) (defBody st) (defScope st) .none kV doc pm an cdv ct) ⟨us,[]⟩=pure (ps.zip us)):Binds K fd ps []:=by
 obtain ⟨oc,od,kV,doc,pm,an,cdv,ct,osl,rfl,lk,hcd⟩:=F.ex
 exact .all (h kV doc pm an cdv ct)
theorem fun_mk {x qual:Str} {st:Stmt} {f:Addr} {oc:Value} {od an:Option Addr} {osl:Array (Option Value)} {kV doc pm cdv ct:Value} (l:K.lookup f=some ⟨oc,od,.func (W.fnOf x qual (defArgs st) (defBody st) (defScope st) .none kV doc pm an cdv ct),osl⟩)
  (c:W.codeIn K cdv qual=true) (k:W.keepIn K (.ref f)=true):Fun K x qual st f (W.fnOf x qual (defArgs st) (defBody st) (defScope st) .none kV doc pm an cdv ct):=⟨⟨oc,od,kV,doc,pm,an,cdv,ct,osl,rfl,l,c⟩,k⟩
end
theorem hu_of {A:Around} {k:Nat} (hr:Room k A):A.units+1 < cLine:=Nat.lt_of_le_of_lt (Nat.add_le_add_left (by decide:1≤64) _) hr.units
theorem small1000 {n:Nat} (h:n≤1000):n < sizeLine:=Nat.lt_of_le_of_lt h (by decide)
section
variable {X : Cx}
theorem pv (i:Nat) {x:Str} {pos:Pos} (hN:X.N[i]? = some x:=by rfl) (hv:Vis X.env.scope x:=by first | exact Or.inl rfl | exact Or.inr (Or.inl rfl) | exact Or.inr (Or.inr rfl)) (hd:(x == ("__debug__" : Str))=false:=by decide)
  (hcd:(x == ("__classdict__" : Str))=false:=by decide):PE X (.Name x pos) (tVar i):=pe_var hN hv hd hcd
end
theorem iteF {A B:Prop} (h:B):if false=true then A else B:=by
 rw [if_neg Bool.false_ne_true]
 exact h
theorem iteT {A B:Prop} (h:A):if true=true then A else B:=by
 rw [if_pos rfl]
 exact h
def Same (H H':Hp):Prop:=∀ b o,H b=some o→H' b=some o
theorem Same.refl (H:Hp):Same H H:=fun _ _ h=>h
theorem Same.trans {H H1 H2:Hp} (a:Same H H1) (b:Same H1 H2):Same H H2:=fun c o h=>b c o (a c o h)
theorem Same.free {H H' : Hp} (e : Same H H') {l : Addr} (h : H' l = Option.none) : H l = Option.none := by
  cases q : H l with
  | none => rfl
  | some o =>
    rw [e l o q] at h
    cases h
theorem Same.seq {K:W.Frag} {H H':Hp} {a:Addr} {xs:List V} (e:Same H H') (h:SqL K H a xs):SqL K H' a xs:=by
 rcases h with (h | ⟨o,h⟩) | h
 ·exact .inl (.inl (e _ _ h))
 ·exact .inl (.inr ⟨o,e _ _ h⟩)
 ·exact .inr h
set_option maxHeartbeats 4000000
abbrev GL:Int:=100000000000000000000000000000000000000000000000000000000000000000000000000000000000000000000000000000000000000000000000000000000000000000000000000000000000000000000000000000000000000000000000000000000
theorem bits_GL {k:Int} (h1 : -GL < k) (h2:k < GL):Builtin.Int.intBits k≤1000:=by
 unfold Builtin.Int.intBits
 split
 ·exact Nat.zero_le _
 ·have hn:k.natAbs < 100000000000000000000000000000000000000000000000000000000000000000000000000000000000000000000000000000000000000000000000000000000000000000000000000000000000000000000000000000000000000000000000000000000:=by
   unfold GL at h1 h2;omega
  have hp:(100000000000000000000000000000000000000000000000000000000000000000000000000000000000000000000000000000000000000000000000000000000000000000000000000000000000000000000000000000000000000000000000000000000:Nat)≤2 ^ 999:=by decide +kernel
  have:k.natAbs.log2 < 999:=by
   rcases Nat.eq_zero_or_pos k.natAbs with h0 | hp'
   ·rw [h0];decide
   ·exact (Nat.log2_lt (Nat.ne_of_gt hp')).mpr (Nat.lt_of_lt_of_le hn hp)
  omega
def CMulB (i j:Int):Prop:=(-GL < i∧i < GL)∧(-GL < j∧j < GL)
theorem CMulB.ok {i j:Int} (h:CMulB i j):IntMulOk i j:=PySem.IntMulOk.of_le (bits_GL h.1.1 h.1.2) (bits_GL h.2.1 h.2.2) (by decide)
def CMulA (i j:Int):Prop:=CMul i j∨CMulB i j
def CDivB (i j:Int):Prop:=0 < j∧j < GL
def CDivS (i j:Int):Prop:=j≠0 ∧ -GL < j∧j < GL
theorem noPy {i j:Int} (h1 : -GL < j) (h2:j < GL):Builtin.divisionGoesByPylong i j=false:=by
 refine PyProof.noPylong_of_log2 ?_
 have hn:j.natAbs < 100000000000000000000000000000000000000000000000000000000000000000000000000000000000000000000000000000000000000000000000000000000000000000000000000000000000000000000000000000000000000000000000000000000:=by
  unfold GL at h1 h2;omega
 have hp:(100000000000000000000000000000000000000000000000000000000000000000000000000000000000000000000000000000000000000000000000000000000000000000000000000000000000000000000000000000000000000000000000000000000:Nat)≤2 ^ 999:=by decide +kernel
 have:j.natAbs.log2 < 999:=by
  rcases Nat.eq_zero_or_pos j.natAbs with h0 | hp'
  ·rw [h0];decide
  ·exact (Nat.log2_lt (Nat.ne_of_gt hp')).mpr (Nat.lt_of_lt_of_le hn hp)
 omega
section
variable {X : Cx} {a b : Expr} {ta tb : TE} {pos : Pos}
theorem op_mulA:OpR X (binaryOp .Mult) (rI CMulA fun i j=>.int (i*j)):=opI fun _ _ _ _ _ _ _ hc q=>mul_int q (hc.elim CMul.ok CMulB.ok)
theorem op_fdivB:OpR X (binaryOp .FloorDiv) (rI CDivB fun i j=>.int (i / j)):=opI fun i j _ _ _ _ _ hc q=>by
 have h1:(0:Int) < j:=hc.1
 have h2:=hc.2
 exact floordiv_int (by omega) (by rw [Int.fdiv_eq_ediv_of_nonneg i (by omega)];exact q) (.inl (noPy (by unfold GL;omega) h2))
theorem pe_powK {i j k:Int} {n1 n2:Nat} {p1 p2:Pos} (hc:CPow i j) (e:i ^ j.toNat=k):PE X (.BinOp (.Constant (.int i) n1 p1) .Pow (.Constant (.int j) n2 p2) pos) (tC (.int k)):=by
 intro pins s σ H Q I h
 refine pe_op op_pow pe_int pe_int pins s σ H Q I ⟨i,j,rfl,rfl,hc,?_⟩
 show Q (.int (i ^ j.toNat)) H
 rw [e];exact h
def clsV:V→Value
 | .ty T=>.type T
 | .ref C=>.ref C
 | _=>.none
def rIsi (K:W.Frag):List V→Hp→VK→Prop:=fun xs H Q=>∃ x c t b,xs=[x,c]∧TyOf K H x t∧(∃ T,c = .ty T ∨ ∃ C,c = .ref C)∧W.kitOne K t (clsV c)=some b∧Q (.bl b) H
theorem call_isi:CallR X (.builtin "isinstance") (rIsi X.K):=by
 intro pins s σ H xs us Q I r h
 obtain ⟨x,c,t,b,rfl,ty,hc,e,q⟩:=h
 obtain ⟨v,w,rfl,rx,rw'⟩:=vals2 r
 have:w=clsV c:=by
  obtain ⟨T,rfl | ⟨C,rfl⟩⟩:=hc
  ·exact rw'
  ·exact rw'
 subst this
 exact isinst_ok I rx ty e fun tk=>⟨.bl b,H,I.tok _,rfl,q⟩
def eqVs (xs ys:List V):Bool:=(List.range (min xs.length ys.length)).all (fun j=>eqV (xs.getD j .non) (ys.getD j .non)) && xs.length == ys.length
theorem Vals.getD : ∀ {xs:List V} {us:List Value} (j:Nat) (h:j < us.length),Vals xs us→RelV (xs.getD j .non) us[j]
 | _,_,j,h,.nil=>absurd h (Nat.not_lt_zero _)
 | _,_,0,_,.cons r _=>r
 | _,_,j+1,h,.cons _ t=>Vals.getD j (Nat.lt_of_succ_lt_succ h) t
theorem flat_getD : ∀ {xs:List V} (j:Nat),xs.all flatV=true→flatV (xs.getD j .non)=true
 | [],j,_=>by simp [flatV]
 | x::xs,0,h=>by rw [List.all_cons,Bool.and_eq_true] at h;exact h.1
 | x::xs,j+1,h=>by rw [List.all_cons,Bool.and_eq_true] at h;simpa using flat_getD (xs:=xs) j h.2
def rEqT (K:W.Frag):R2:=fun x y H Q=>∃ p q xs ys,x = .ref p∧y = .ref q∧SqT K H p xs∧SqT K H q ys∧xs.all flatV=true∧ys.all flatV=true∧Q (.bl (eqVs xs ys)) H
theorem op_eqT (hu:X.A.units < cLine):OpR X (compareOp .Eq) (rEqT X.K):=by
 intro pins s σ H x y v u Q I rx ry h
 obtain ⟨p,q,xs,ys,rfl,rfl,hx,hy,fx,fy,k⟩:=h
 cases rx;cases ry
 obtain ⟨its,r,pl,hz⟩:=I.tuple hx
 obtain ⟨its2,r2,pl2,hz2⟩:=I.tuple hy
 refine SeqAt.eq_tupleAt (e:=fun j=>eqV (xs.getD j .non) (ys.getD j .non)) pl pl2 hu (fun j h1 h2=>?_) ⟨.bl _,H,I,rfl,?_⟩
 ·exact eqAt_V (by simpa using Vals.getD j (by simpa using h1) r) (by simpa using Vals.getD j (by simpa using h2) r2) (flat_getD j fx) (flat_getD j fy)
 ·have e1:its.toArray.size=xs.length:=by simp [r.length]
  have e2:its2.toArray.size=ys.length:=by simp [r2.length]
  rw [e1,e2]
  exact k
end
def Has (P:Program) (w:World) (K:W.Frag) (mg:Str→Option Value) (base:Heap) (x:Str) (k:Nat) (ps:List Str) (sp:Sp):Prop:=
 ∃ (f:Addr) (fd:FuncData),FnOk P w K mg base CX0 k f fd ps sp∧mg x=some (.ref f)∧W.keepIn K (.ref f)=true∧Binds K fd ps []
theorem pe_callH {X:Cx} {x:Str} {k n:Nat} {ps:List Str} {sp:Sp} {p pos:Pos} {e:Expr} {es:List Expr} {t:TA} (F:Has X.prog X.w X.K X.mg X.base x k ps sp) (hr:Room n X.A) (hg:Gl X x) (ha:PA X (e::es) t) (hk:k≤n:=by decide)
  (hdb:(x == ("__debug__" : Str))=false:=by decide) (he:starEach (e::es) X.env=(false,eval e X.env)::starEach es X.env:=by rfl) (hpl:(backTo pos (starEach es X.env)).any (·.1)=false:=by rfl) :
  PE X (.Call (.Name x p) (e::es) [] pos) (tCall sp [] E0 t):=by
 obtain ⟨f,fd,G,hm,kp,hb⟩:=F
 exact pe_call G (hr.mono hk) hg hm kp hb .nil pass0 ha hdb he hpl
theorem pe_callBH {X:Cx} {x:Str} {id:String} {p pos:Pos} {e:Expr} {es:List Expr} {t:TA} {r:List V→Hp→VK→Prop} (hc:CallR X (.builtin id) r) (hm:X.mg x=none) (hg:Gl X x) (hv:bootBuiltins x=some (.builtin id)) (ha:PA X (e::es) t) (hn:x ≠ "__name__" := by decide) (hdb:(x == ("__debug__" : Str))=false:=by decide)
  (he:starEach (e::es) X.env=(false,eval e X.env)::starEach es X.env:=by rfl) (hpl:(backTo pos (starEach es X.env)).any (·.1)=false:=by rfl):PE X (.Call (.Name x p) (e::es) [] pos) (tCB r t):=
 pe_callB hc hg hm hv ha hn hdb he hpl
theorem same_new {H:Hp} {p:Addr} (h:H p=none) (o:HO):Same H (upd H p o):=fun b u q=>by rw [upd_ne (ne_of_none q h)];exact q
theorem Same.at {H H':Hp} (g:Same H H') {b:Addr} {o:HO} (h:H b=some o):H' b=some o:=g b o h
theorem small {n:Nat} (h:n≤1000):n≤sizeLine:=Nat.le_of_lt (small1000 h)
section
variable {σ : St} {H : Hp} {Q : VK} {D : Ends} {K : W.Frag}
theorem r_var {i:Nat} {v:V} (e:σ[i]? = some (some v)) (h:Q v H):tVar i σ H Q:=⟨v,e,h⟩
theorem r_c {v:V} (h:Q v H):tC v σ H Q:=h
theorem r_op {r:R2} {ta tb:TE} (h:ta σ H fun x H1=>tb σ H1 fun y H2=>r x y H2 Q):tOp r ta tb σ H Q:=h
theorem r_un {r:V→Hp→VK→Prop} {ta:TE} (h:ta σ H fun x H1=>r x H1 Q):tUn r ta σ H Q:=h
theorem r_I {C:Int→Int→Prop} {g:Int→Int→V} {i j:Int} (hc:C i j) (h:Q (g i j) H):rI C g (.int i) (.int j) H Q:=⟨i,j,rfl,rfl,hc,h⟩
theorem r_I0 {g:Int→Int→V} {i j:Int} (h:Q (g i j) H):rI0 g (.int i) (.int j) H Q:=⟨i,j,rfl,rfl,h⟩
theorem r_U {g:Int→V} {i:Int} (h:Q (g i) H):rU g (.int i) H Q:=⟨i,rfl,h⟩
theorem r_eqI {i j:Int} (h:Q (.bl (decide (i=j))) H):rEq (.int i) (.int j) H Q:=⟨rfl,by rw [show decide (V.int i=V.int j)=decide (i=j) by by_cases e:i=j <;> simp [e]];exact h⟩
theorem r_neI {i j:Int} (h:Q (.bl (!decide (i=j))) H):rNe (.int i) (.int j) H Q:=⟨rfl,by rw [show decide (V.int i=V.int j)=decide (i=j) by by_cases e:i=j <;> simp [e]];exact h⟩
theorem r_eqB {i j:Bool} (h:Q (.bl (i == j)) H):rEq (.bl i) (.bl j) H Q:=⟨rfl,by rw [dec_bl];exact h⟩
theorem r_eqS {x y:Str} {b:Bool} (e:decide (x=y)=b) (h:Q (.bl b) H):rEq (.str x) (.str y) H Q:=⟨rfl,by rw [show decide (V.str x=V.str y)=decide (x=y) by by_cases e:x=y <;> simp [e],e];exact h⟩
theorem r_test {t:TE} {R:Bool→Hp→Prop} (h:t σ H fun x H'=>∃ k,x = .bl k∧R k H'):tTest t σ H R:=h
theorem r_tB {t:TE} {R:Bool→Hp→Prop} (h:t σ H fun x H'=>∃ k,x = .bl k∧R k H'):tB t σ H R:=h
theorem r_exbl {b:Bool} {R:Bool→Prop} (h:R b) : ∃ k,V.bl b = .bl k∧R k:=⟨b,rfl,h⟩
theorem r_and {t u:TT} {R:Bool→Hp→Prop} (h:t σ H fun c H1=>if c=true then u σ H1 R else R false H1):tAnd t u σ H R:=h
theorem r_or {t u:TT} {R:Bool→Hp→Prop} (h:t σ H fun c H1=>if c=true then R true H1 else u σ H1 R):tOr t u σ H R:=h
theorem r_not {t:TT} {R:Bool→Hp→Prop} (h:t σ H fun c H1=>R (!c) H1):tNot t σ H R:=h
theorem r_andV {ta tb:TE} (h:ta σ H fun x H1=>∃ c,x = .bl c∧if c=true then tb σ H1 Q else Q (.bl false) H1):tAndV ta tb σ H Q:=h
theorem r_orV {ta tb:TE} (h:ta σ H fun x H1=>∃ c,x = .bl c∧if c=true then Q (.bl true) H1 else tb σ H1 Q):tOrV ta tb σ H Q:=h
theorem r_notV {ta:TE} (h:ta σ H fun x H1=>∃ c,x = .bl c∧Q (.bl (!c)) H1):tNotV ta σ H Q:=h
theorem r_ifE {t:TT} {ta tb:TE} (h:t σ H fun c H1=>if c=true then ta σ H1 Q else tb σ H1 Q):tIf t ta tb σ H Q:=h
theorem r_chain {r r':R2} {ta tb tc:TE} (h:ta σ H fun x H1=>tb σ H1 fun y H2=>r x y H2 fun z H3=>∃ k,z = .bl k∧(if k=true then tc σ H3 fun w' H4=>r' y w' H4 Q else Q (.bl false) H3)):tChain r r' ta tb tc σ H Q:=h
theorem r_seq {t u:TS} (h:t { D with nx:=u D } σ H):tSeq t u D σ H:=h
theorem r_next (h:D.nx σ H):tNext D σ H:=h
theorem r_asg {te:TE} {g:TG} (h:te σ H fun x H1=>g x σ H1 D.nx):tAsg te g D σ H:=h
theorem r_name {i:Nat} {v:V} {R:St→Hp→Prop} (h:R (σ.set i (some v)) H):gName i v σ H R:=h
theorem r_ret {te:TE} (h:te σ H D.rt):tRet te D σ H:=h
theorem r_drop {te:TE} (h:te σ H fun _ H1=>D.nx σ H1):tDrop te D σ H:=h
theorem r_ifS {c:TT} {t u:TS} (h:c σ H fun b H1=>if b=true then t D σ H1 else u D σ H1):tIfS c t u D σ H:=h
theorem r_nil {R:List V→Hp→Prop} (h:R [] H):tNil σ H R:=h
theorem r_cons {ta:TE} {tr:TA} {R:List V→Hp→Prop} (h:ta σ H fun x H1=>tr σ H1 fun xs H2=>R (x::xs) H2):tCons ta tr σ H R:=h
theorem r_call {sp:Sp} {dvs:List V} {E:XK} {t:TA} (h:t σ H fun vs H1=>sp (vs++dvs) H1 Q E):tCall sp dvs E t σ H Q:=h
theorem r_cb {r:List V→Hp→VK→Prop} {t:TA} (h:t σ H fun vs H1=>r vs H1 Q):tCB r t σ H Q:=h
def kTup (Q:VK) (xs:List V) (H:Hp):Prop:=xs.length≤sizeLine ∧ ∀ p,H p=none→Q (.ref p) (upd H p (.tup xs))
def kLst (Q:VK) (xs:List V) (H:Hp):Prop:=xs.length≤sizeLine ∧ ∀ p,H p=none→Q (.ref p) (upd H p (.lst xs))
theorem r_tup {t:TA} (h:t σ H (kTup Q)):tTup t σ H Q:=h
theorem r_lst {t:TA} (h:t σ H (kLst Q)):tLst t σ H Q:=h
theorem r_kTup {xs:List V} (hz:xs.length≤sizeLine) (h : ∀ p H',Same H H'→H' p=some (.tup xs)→Q (.ref p) H'):kTup Q xs H:=⟨hz,fun p hp=>h p _ (same_new hp _) upd_same⟩
theorem r_kLst {xs:List V} (hz:xs.length≤sizeLine) (h : ∀ p H',Same H H'→H' p=some (.lst xs)→Q (.ref p) H'):kLst Q xs H:=⟨hz,fun p hp=>h p _ (same_new hp _) upd_same⟩
theorem r_ixT {p:Addr} {xs:List V} {i:Int} {v:V} (h:H p=some (.tup xs)) (e:atI xs i=some v) (q:Q v H):rIxT K (.ref p) (.int i) H Q:=⟨p,xs,i,v,rfl,rfl,SqT.of h,e,q⟩
theorem r_ixL {p:Addr} {xs:List V} {i:Int} {v:V} (h:SqL K H p xs) (e:atI xs i=some v) (q:Q v H):rIxL K (.ref p) (.int i) H Q:=⟨p,xs,i,v,rfl,rfl,h,e,q⟩
theorem r_isi {x c:V} {t:Value} {b:Bool} (ty:TyOf K H x t) (hc : ∃ T,c = .ty T ∨ ∃ C,c = .ref C) (e:W.kitOne K t (clsV c)=some b) (q:Q (.bl b) H):rIsi K [x,c] H Q:=⟨x,c,t,b,rfl,ty,hc,e,q⟩
end
def CPos (_ j:Int):Prop:=0 < j
def CNn (_ j:Int):Prop:=0≤j
def CNz (_ j:Int):Prop:=j≠0
theorem op_modP {X:Cx}:OpR X (binaryOp .Mod) (rI CPos fun i j=>.int (i % j)):=op_mod
theorem op_shrP {X:Cx}:OpR X (binaryOp .RShift) (rI CNn fun i j=>.int (i / 2 ^ j.toNat)):=op_shr
section
variable {σ : St} {H : Hp} {Q : VK} {D : Ends} {K : W.Frag}
theorem r_exN {W:Nat→St→Hp→Prop} {m:Nat} {tb:TS} (h:tb { D with nx:=fun σ' H'=>∃ m',m' < m∧W m' σ' H',ct:=fun σ' H'=>∃ m',m' < m∧W m' σ' H',bk:=D.nx } σ H) :
  ∃ N:St→Hp→Prop,(∀ σ' H',N σ' H' → ∃ m',m' < m∧W m' σ' H')∧tb { D with nx:=N,ct:=N,bk:=D.nx } σ H:=⟨_,fun _ _ h=>h,h⟩
theorem r_while {c:TT} {tb:TS} (W:Nat→St→Hp→Prop) (h0 : ∃ m,W m σ H) (hs : ∀ m σ H,W m σ H→c σ H fun b H1=>if b=true then ∃ N:St→Hp→Prop,(∀ σ' H',N σ' H' → ∃ m',m' < m∧W m' σ' H')∧tb { D with nx:=N,ct:=N,bk:=D.nx } σ H1 else D.nx σ H1):tWhile c tb D σ H:=⟨W,h0,hs⟩
def kForL (K:PySem.W.Frag) (g:TG) (tb:TS) (D:Ends) (σ:St) (x:V) (H:Hp):Prop:=∃ a,x = .ref a∧(∃ xs,SqL K H a xs) ∧ ∃ W:Nat→Nat→St→Hp→Prop,(∃ m,W 0 m σ H) ∧ ∀ i m σ H,W i m σ H →
 ((Itl K a).stop i H∧D.nx σ H)∨((Itl K a).go i H ∧ ∃ N:St→Hp→Prop,(∀ σ' H',N σ' H' → ∃ m',m' < m∧W (i+1) m' σ' H') ∧ ∀ x H',(Itl K a).yld i H x H'→g x σ H' fun σ2 H2=>tb { D with nx:=N,ct:=N,bk:=D.nx } σ2 H2)
theorem r_forL {tl:TE} {g:TG} {tb:TS} (h:tl σ H (kForL K g tb D σ)):tFor (iList K tl) g tb D σ H:=h
theorem r_kForL {g:TG} {tb:TS} {a:Addr} {xs:List V} (hx:SqL K H a xs) (Pv:Nat→St→Hp→Prop) (h0:Pv 0 σ H) (hl : ∀ i σ H,i≤xs.length→Pv i σ H→SqL K H a xs)
  (hs : ∀ i x σ H,xs[i]? = some x→Pv i σ H→g x σ H fun σ2 H2=>tb { D with nx:=Pv (i+1),ct:=Pv (i+1),bk:=D.nx } σ2 H2) (hd : ∀ σ H,Pv xs.length σ H→D.nx σ H):kForL K g tb D σ (.ref a) H:=⟨a,rfl,⟨xs,hx⟩,for_list Pv h0 hl hs hd⟩
def kForR (g:TG) (tb:TS) (D:Ends) (σ:St) (vs:List V) (H:Hp):Prop:=∃ j:Int,vs=[.int j] ∧ -(2 ^ 62)≤j∧j < 2 ^ 62 ∧ ∃ W:Nat→Nat→St→Hp→Prop,(∃ m,W 0 m σ H) ∧ ∀ i m σ H,W i m σ H →
 ((Itr 0 j.toNat).stop i H∧D.nx σ H)∨((Itr 0 j.toNat).go i H ∧ ∃ N:St→Hp→Prop,(∀ σ' H',N σ' H' → ∃ m',m' < m∧W (i+1) m' σ' H') ∧ ∀ x H',(Itr 0 j.toNat).yld i H x H'→g x σ H' fun σ2 H2=>tb { D with nx:=N,ct:=N,bk:=D.nx } σ2 H2)
theorem r_forR {ta:TA} {g:TG} {tb:TS} (h:ta σ H (kForR g tb D σ)):tFor (iRng1 ta) g tb D σ H:=h
theorem r_kForR {g:TG} {tb:TS} {j:Int} (h1 : -(2 ^ 62)≤j) (h2:j < 2 ^ 62) (Pv:Nat→St→Hp→Prop) (h0:Pv 0 σ H)
  (hs : ∀ i σ H,i < j.toNat→Pv i σ H→g (.int (0+i)) σ H fun σ2 H2=>tb { D with nx:=Pv (i+1),ct:=Pv (i+1),bk:=D.nx } σ2 H2) (hd : ∀ σ H,Pv j.toNat σ H→D.nx σ H):kForR g tb D σ [.int j] H:=⟨j,rfl,h1,h2,for_range Pv h0 hs hd⟩
theorem r_gTup {n:Nat} {t:TGs} {a:Addr} {xs:List V} {R:St→Hp→Prop} (h:H a=some (.tup xs)) (hn:xs.length=n) (k:t xs σ H R):gTup K n t (.ref a) σ H R:=⟨a,xs,rfl,SqT.of h,hn,k⟩
theorem r_gCons {t:TG} {u:TGs} {v:V} {r:List V} {R:St→Hp→Prop} (h:t v σ H fun σ' H'=>u r σ' H' R):gCons t u (v::r) σ H R:=⟨v,r,rfl,h⟩
theorem r_gNil {R:St→Hp→Prop} (h:R σ H):gNil [] σ H R:=⟨rfl,h⟩
end
theorem hu_lt {A:Around} {k:Nat} (hr:Room k A):A.units < cLine:=Nat.lt_of_succ_lt (hu_of hr)
def rAbs:List V→Hp→VK→Prop:=fun xs H Q=>∃ i,xs=[.int i]∧Q (.int (if i < 0 then -i else i)) H
def rMax2:List V→Hp→VK→Prop:=fun xs H Q=>∃ i j,xs=[.int i,.int j]∧Q (.int (if j > i then j else i)) H
def rMin2:List V→Hp→VK→Prop:=fun xs H Q=>∃ i j,xs=[.int i,.int j]∧Q (.int (if j < i then j else i)) H
def rInt1:List V→Hp→VK→Prop:=fun xs H Q=>(∃ i,xs=[.int i]∧Q (.int i) H) ∨ ∃ k,xs=[.bl k]∧Q (.int (if k then 1 else 0)) H
def rLenS (K:W.Frag):List V→Hp→VK→Prop:=fun xs H Q=>∃ p ys,xs=[.ref p]∧(SqL K H p ys∨SqT K H p ys)∧Q (.int ys.length) H
section
variable {X : Cx} {H : Hp} {Q : VK} {K : W.Frag}
theorem call_absN:CallR X (.builtin "abs") rAbs:=call_abs
theorem call_max2N (hc:X.calm=true):CallR X (.builtin "max") rMax2:=call_max2 hc
theorem call_min2N (hc:X.calm=true):CallR X (.builtin "min") rMin2:=call_min2 hc
theorem call_int1N:CallR X (.type "int") rInt1:=call_int1
theorem call_lenN:CallR X (.builtin "len") (rLenS X.K):=call_len_seq
theorem r_absA {i:Int} (h : ∀ k:Int,(0≤i∧k=i)∨(i < 0∧k = -i)→Q (.int k) H):rAbs [.int i] H Q:=⟨i,rfl,h _ (by split <;> omega)⟩
theorem r_max2A {i j:Int} (h : ∀ k:Int,(i < j∧k=j)∨(j≤i∧k=i)→Q (.int k) H):rMax2 [.int i,.int j] H Q:=⟨i,j,rfl,h _ (by split <;> omega)⟩
theorem r_min2A {i j:Int} (h : ∀ k:Int,(j < i∧k=j)∨(i≤j∧k=i)→Q (.int k) H):rMin2 [.int i,.int j] H Q:=⟨i,j,rfl,h _ (by split <;> omega)⟩
theorem r_lenT2 {p:Addr} {a b:V} (h:H p=some (.tup [a,b])) (q:Q (.int 2) H):rLenS K [.ref p] H Q:=⟨p,[a,b],rfl,.inr (SqT.of h),q⟩
theorem r_int1b {k:Bool} (h:Q (.int (if k then 1 else 0)) H):rInt1 [.bl k] H Q:=.inr ⟨k,rfl,h⟩
theorem r_lenL {p:Addr} {ys:List V} (h:SqL K H p ys) (q:Q (.int ys.length) H):rLenS K [.ref p] H Q:=⟨p,ys,rfl,.inl h,q⟩
end
theorem bo_int:bootBuiltins "int" = some (.type "int"):=by decide +kernel
theorem bo_bool:bootBuiltins "bool" = some (.type "bool"):=by decide +kernel
theorem bo_tuple:bootBuiltins "tuple" = some (.type "tuple"):=by decide +kernel
theorem bo_str:bootBuiltins "str" = some (.type "str"):=by decide +kernel
theorem bo_list:bootBuiltins "list" = some (.type "list"):=by decide +kernel
theorem bo_isinstance:bootBuiltins "isinstance" = some (.builtin "isinstance"):=by decide +kernel
theorem bo_abs:bootBuiltins "abs" = some (.builtin "abs"):=by decide +kernel
theorem bo_max:bootBuiltins "max" = some (.builtin "max"):=by decide +kernel
theorem bo_min:bootBuiltins "min" = some (.builtin "min"):=by decide +kernel
theorem bo_len:bootBuiltins "len" = some (.builtin "len"):=by decide +kernel
def kitC (T T':String):Option Bool:=if (Value.type T == Value.type T')=true then some true else if W.kitMeta T'=true then (fastBuiltinMro T).map (·.contains (Value.type T')) else none
theorem kit_ty (K:W.Frag) (T T':String) {b:Bool} (h:kitC T T'=some b):W.kitOne K (.type T) (.type T')=some b:=h
theorem kit_int_int (K:W.Frag):W.kitOne K (.type "int") (.type "int")=some true:=kit_ty K _ _ (by decide +kernel)
theorem kit_int_bool (K:W.Frag):W.kitOne K (.type "int") (.type "bool")=some false:=kit_ty K _ _ (by decide +kernel)
theorem kit_bool_bool (K:W.Frag):W.kitOne K (.type "bool") (.type "bool")=some true:=kit_ty K _ _ (by decide +kernel)
theorem kit_bool_int (K:W.Frag):W.kitOne K (.type "bool") (.type "int")=some true:=kit_ty K _ _ (by decide +kernel)
theorem kit_tuple_tuple (K:W.Frag):W.kitOne K (.type "tuple") (.type "tuple")=some true:=kit_ty K _ _ (by decide +kernel)
theorem kit_str_int (K:W.Frag):W.kitOne K (.type "str") (.type "int")=some false:=kit_ty K _ _ (by decide +kernel)
theorem kit_str_str (K:W.Frag):W.kitOne K (.type "str") (.type "str")=some true:=kit_ty K _ _ (by decide +kernel)
theorem kit_list_list (K:W.Frag):W.kitOne K (.type "list") (.type "list")=some true:=kit_ty K _ _ (by decide +kernel)
theorem kit_list_int (K:W.Frag):W.kitOne K (.type "list") (.type "int")=some false:=kit_ty K _ _ (by decide +kernel)
theorem kit_tuple_int (K:W.Frag):W.kitOne K (.type "tuple") (.type "int")=some false:=kit_ty K _ _ (by decide +kernel)
theorem kit_NoneType_int (K:W.Frag):W.kitOne K (.type "NoneType") (.type "int")=some false:=kit_ty K _ _ (by decide +kernel)
theorem kit_dict_int (K:W.Frag):W.kitOne K (.type "dict") (.type "int")=some false:=kit_ty K _ _ (by decide +kernel)
section
variable {H : Hp} {Q : VK} {K : W.Frag}
theorem r_isi_ii {i:Int} (q:Q (.bl true) H):rIsi K [.int i,.ty "int"] H Q:=r_isi (.int i) ⟨_,.inl rfl⟩ (kit_int_int K) q
theorem r_isi_ib {i:Int} (q:Q (.bl false) H):rIsi K [.int i,.ty "bool"] H Q:=r_isi (.int i) ⟨_,.inl rfl⟩ (kit_int_bool K) q
theorem r_isi_bb {i:Bool} (q:Q (.bl true) H):rIsi K [.bl i,.ty "bool"] H Q:=r_isi (.bl i) ⟨_,.inl rfl⟩ (kit_bool_bool K) q
theorem r_isi_tt {p:Addr} {xs:List V} (h:H p=some (.tup xs)) (q:Q (.bl true) H):rIsi K [.ref p,.ty "tuple"] H Q:=r_isi (.tup h) ⟨_,.inl rfl⟩ (kit_tuple_tuple K) q
end
theorem i_d {c:Prop} [Decidable c] {A B:Prop} (h1:c→A) (h2 : ¬ c→B):if decide c=true then A else B:=by
 by_cases h:c
 ·rw [if_pos (decide_eq_true h)];exact h1 h
 ·rw [if_neg (by rw [decide_eq_false h];decide)];exact h2 h
theorem i_nd {c:Prop} [Decidable c] {A B:Prop} (h1:c→B) (h2 : ¬ c→A):if (!decide c)=true then A else B:=by
 by_cases h:c
 ·rw [decide_eq_true h];exact h1 h
 ·rw [decide_eq_false h];exact h2 h
theorem i_dP {c:Prop} [Decidable c] {A B:Prop} (h:c) (h1:A):if decide c=true then A else B:=i_d (fun _=>h1) (fun n=>absurd h n)
theorem i_dN {c:Prop} [Decidable c] {A B:Prop} (h : ¬ c) (h1:B):if decide c=true then A else B:=i_d (fun n=>absurd n h) (fun _=>h1)
theorem i_ndP {c:Prop} [Decidable c] {A B:Prop} (h:c) (h1:B):if (!decide c)=true then A else B:=i_nd (fun _=>h1) (fun n=>absurd h n)
theorem i_b {b:Bool} {A B:Prop} (h1:b=true→A) (h2:b=false→B):if b=true then A else B:=by
 cases b with
 | true=>rw [if_pos rfl];exact h1 rfl
 | false=>rw [if_neg (by decide)];exact h2 rfl
theorem i_nT {A B:Prop} (h:B):if (!true)=true then A else B:=h
theorem i_nF {A B:Prop} (h:A):if (!false)=true then A else B:=h
def cxComp (X:Cx) (scope:Scope) (cl:List (Str × Addr)) (N':List Str) (C:Addr) (s₂:Shared) (H₂:Hp) (fp:List Addr):Cx where
 prog:=X.prog
 w:=X.w
 K:=X.K
 mg:=X.mg
 base:=X.base
 A:=X.A
 N:=N'
 s₀:=s₂
 H₀:=H₂
 env:=compEnvC scope cl C X.env
 outer:=X.stack
 stack:=X.stack
 ex:=fp
 calm:=X.calm
 fn:=fun _=>false
 pn:=[]
 xe:=fun _ _=>False
def ClOk (cells:List (Str × Addr)):List (Str × Addr)→Prop
 | []=>True
 | p::r=>cells.lookup p.1=some p.2∧ClOk cells r
theorem ClOk.look {cells : List (Str × Addr)} : ∀ {cl : List (Str × Addr)} {x : Str} {c : Addr}, ClOk cells cl → cl.lookup x = some c → cells.lookup x = some c
  | [], _, _, _, h => by simp at h
  | (y, d) :: r, x, c, ⟨h1, h2⟩, h => by
    rw [List.lookup_cons] at h
    cases e : x == y with
    | true =>
      rw [e] at h
      have e' : x = y := eq_of_beq e
      cases h
      rw [e']; exact h1
    | false =>
      rw [e] at h
      exact ClOk.look h2 h
def FrOk (X:Cx) (scope:Scope):List Str→List Nat→Prop
 | [],[]=>True
 | y::r,j::js=>(X.N[j]? = some y∧scope.names.lookup y=some .free∧(X.env.kindOf y=some .cell∨X.env.kindOf y=some .free))∧FrOk X scope r js
 | _,_=>False
theorem FrOk.get {X : Cx} {scope : Scope} : ∀ {fr : List Str} {js : List Nat} {k : Nat} {y : Str}, FrOk X scope fr js → fr[k]? = some y → ∃ j, js[k]? = some j ∧ X.N[j]? = some y ∧ scope.names.lookup y = some .free ∧ (X.env.kindOf y = some .cell ∨ X.env.kindOf y = some .free)
  | [], _, _, _, _, h => by simp at h
  | _ :: _, [], _, _, h, _ => h.elim
  | y :: r, j :: js, 0, z, ⟨h1, _⟩, h => by simp at h; subst h; exact ⟨j, rfl, h1⟩
  | y :: r, j :: js, k + 1, z, ⟨_, h2⟩, h => by
    obtain ⟨j', e, q⟩ := FrOk.get (k := k) h2 (by simpa using h)
    exact ⟨j', by simpa using e, q⟩
theorem FrOk.len {X:Cx} {scope:Scope} : ∀ {fr:List Str} {js:List Nat},FrOk X scope fr js→fr.length=js.length
 | [],[],_=>rfl
 | [],_::_,h=>h.elim
 | _::_,[],h=>h.elim
 | _::r,_::js,h=>by rw [List.length_cons,List.length_cons,FrOk.len h.2]
theorem relabel_look {env : Env} : ∀ {names : List (Str × NameKind)} {x : Str}, (∀ y ∈ names, y.2 ≠ .cell) →
    ((names.map fun (n, k) => if (k == NameKind.free && env.scope.kind == .function && env.kindOf n == some .cell) then (n, NameKind.cell) else (n, k)).lookup x = some .cell ∨
     (names.map fun (n, k) => if (k == NameKind.free && env.scope.kind == .function && env.kindOf n == some .cell) then (n, NameKind.cell) else (n, k)).lookup x = some .free) → names.lookup x = some .free
  | [], _, _, h => by simp at h
  | (n, k) :: r, x, hc, h => by
    have ih := @relabel_look env r x (fun y hy => hc y (List.mem_cons_of_mem _ hy))
    rw [List.map_cons] at h
    dsimp only at h
    by_cases hb : (k == NameKind.free && env.scope.kind == .function && env.kindOf n == some .cell) = true
    · rw [if_pos hb] at h
      rw [List.lookup_cons] at h
      rw [List.lookup_cons]
      cases e : x == n with
      | true =>
        have : k = .free := by simp at hb; exact hb.1.1
        rw [this]
      | false =>
        rw [e] at h
        exact ih h
    · rw [if_neg hb] at h
      rw [List.lookup_cons] at h
      rw [List.lookup_cons]
      cases e : x == n with
      | true =>
        rw [e] at h
        have hk : k ≠ .cell := hc (n, k) List.mem_cons_self
        rcases h with h | h
        · exact absurd (Option.some.inj h) hk
        · exact h
      | false =>
        rw [e] at h
        exact ih h
theorem relabel_free {env : Env} (hk : env.scope.kind = .function) {x : Str} : ∀ {names : List (Str × NameKind)}, names.lookup x = some .free → (env.kindOf x = some .cell ∨ env.kindOf x = some .free) →
    ((names.map fun (n, k) => if (k == NameKind.free && env.scope.kind == .function && env.kindOf n == some .cell) then (n, NameKind.cell) else (n, k)).lookup x = some .cell ∨
     (names.map fun (n, k) => if (k == NameKind.free && env.scope.kind == .function && env.kindOf n == some .cell) then (n, NameKind.cell) else (n, k)).lookup x = some .free)
  | [], h, _ => by simp at h
  | (n, k) :: r, h, hx => by
    have ih := @relabel_free env hk x r
    rw [List.lookup_cons] at h
    rw [List.map_cons]
    dsimp only
    cases e : x == n with
    | true =>
      rw [e] at h
      have ek : k = .free := Option.some.inj h
      have en : x = n := eq_of_beq e
      subst ek
      rcases hx with hx | hx
      · left
        have hb : ((NameKind.free == NameKind.free) && env.scope.kind == .function && env.kindOf n == some .cell) = true := by rw [← en, hx, hk]; decide
        rw [if_pos hb, List.lookup_cons, e]
      · right
        have hb : ¬ ((NameKind.free == NameKind.free) && env.scope.kind == .function && env.kindOf n == some .cell) = true := by rw [← en, hx, hk]; decide
        rw [if_neg hb, List.lookup_cons, e]
    | false =>
      rw [e] at h
      rcases ih h hx with q | q
      · left
        split <;> rw [List.lookup_cons, e] <;> exact q
      · right
        split <;> rw [List.lookup_cons, e] <;> exact q
section
variable {X : Cx} {pins : List (Addr × Obj)} {σ : St} {H : Hp} {s : Shared}
theorem HOk.track {P:Program} {w:World} {H:Hp} {h:Heap} {a:Addr} {o:HO} (x:HOk P w H h) (hn:H a=none) (new:ObjOk P w (upd H a o) h a o):HOk P w (upd H a o) h:=fun b u e=>by
 by_cases hb:b=a
 ·subst hb;rw [upd_same] at e;cases e;exact new
 ·rw [upd_ne hb] at e
  exact (x b u e).stay (fun c v _ q=>q) (fun c q=>by rw [upd_ne (ne_of_none q hn)];exact q) fun c xs q=>by rw [upd_ne (ne_of_none q hn)];exact q
theorem Inv.track {a:Addr} {o:HO} (I:Inv X pins σ H s) (f:FpOk X pins H a) (new:ObjOk X.prog X.w (upd H a o) s.heap a o):Inv X pins σ (upd H a o) s:=by
 obtain ⟨f0,f1,f2,f3,f4,f5⟩:=f
 have up : ∀ b,H b=none→b≠a→upd H a o b=none:=fun b e n=>by rw [upd_ne n];exact e
 have st : ∀ {b u},H b=some u→upd H a o b=some u:=fun {b u} e=>by rw [upd_ne (ne_of_none e f0)];exact e
 have na : ∀ b ob,X.s₀.heap.get? b=some ob→b ∉ X.ex→b≠a:=fun b ob e hx z=>by
  rcases f3 with q | q
  ·exact hx (z ▸ q)
  ·exact absurd (Nat.lt_of_lt_of_le (Heap.lt_size e) (z ▸ q)) (Nat.lt_irrefl _)
 refine ⟨I.ok,I.os,I.bare,⟨I.base.keep,I.base.slot,fun b ob e n hx=>up b (I.base.free b ob e n hx) (na b ob e hx),I.base.there,fun b xs e=>st (I.base.tups b xs e),fun b ob u e=>st (I.base.frzs b ob u e),fun b ps e=>?_⟩,I.loc,I.cell,up _ I.free (Ne.symm f1),fun x c e=>up c (I.freeC x c e) (f4 x c e),fun p hp=>?_,I.hok.track f0 new,I.len⟩
 ·obtain ⟨m,q⟩:=I.base.tbls b ps e
  exact ⟨m,st q⟩
 ·obtain ⟨e,n,r⟩:=I.pin p hp
  exact ⟨e,up _ n (f5 p hp),r⟩
end
def PIfs (Y:Cx) (ifs:List Expr) (t:TT):Prop:=
 ∀ (pins:List (Addr × Obj)) (s:Shared) (σ:St) (H:Hp) (R:Bool→Hp→Prop),Inv Y pins σ H s→t σ H R →
  wpAny (model Y.prog Y.w) Y.A (forIn ifs true fun c r=>if r=true then do let ok ← isTrue c Y.env (eval c Y.env);pure (ForInStep.yield ok) else pure (ForInStep.yield r)) (TP Y pins σ R) Y.xe s
def tNoIf:TT:=fun _ H R=>R true H
theorem pifs_nil {Y:Cx}:PIfs Y [] tNoIf:=fun _ _ _ H _ I h=>wpAny_tests_nil ⟨H,I,h⟩
def kComp (is : List Nat) (tt : TT) (te : TE) (σ : St) (Q : VK) (J : It) (H1 : Hp) : Prop := ∃ W : Nat → Nat → List V → Hp → Prop, (∃ m, W 0 m [] H1) ∧ ∀ i m ys H, W i m ys H → ys.length ≤ sizeLine ∧
  ((J.stop i H ∧ ∀ p, H p = none → Q (.ref p) (upd H p (.lst ys))) ∨
   (J.go i H ∧ ys.length < sizeLine ∧ ∀ x H', J.yld i H x H' → tt (some x :: is.map fun j => (σ[j]?).getD none) H' fun ok H2 =>
     if ok = true then te (some x :: is.map fun j => (σ[j]?).getD none) H2 fun y H3 => ∃ m', m' < m ∧ W (i + 1) m' (ys ++ [y]) H3 else ∃ m', m' < m ∧ W (i + 1) m' ys H2))
def tComp (is:List Nat) (wi:TI) (tt:TT) (te:TE):TE:=fun σ H Q=>wi σ H fun J H1=>kComp is tt te σ Q J H1
section
variable {X : Cx} {elt iter : Expr} {ifs : List Expr} {x : Str} {px pos : Pos} {scope : Scope} {cl : List (Str × Addr)} {fr : List Str} {is : List Nat} {wi : TI} {tt : TT} {te : TE}
theorem cxComp_ok {pins : List (Addr × Obj)} {σ : St} {H₂ : Hp} {s₂ : Shared} {C : Addr} {fp : List Addr} {N' : List Str} (I : Inv X pins σ H₂ s₂) (hC : s₂.heap.objs.size ≤ C) (hf : ∀ b ∈ fp, FpOk X pins H₂ b) (hfl : ∀ b ∈ fp, b < s₂.heap.objs.size)
    (hcell : ∀ y ∈ scope.names, y.2 ≠ .cell) (hkind : scope.kind = .function) (hcl : ClOk X.env.cells cl) (hfree : (scope.names.all fun p => p.2 != .free || (cl.lookup p.1).isSome) = true) : (cxComp X scope cl N' C s₂ H₂ fp).Ok where
  mod := I.mod
  kind := hkind
  glob := I.ok.glob
  blt := I.ok.blt
  above := hC
  inj := fun x y c h1 h2 => I.ok.inj x y c (hcl.look h1) (hcl.look h2)
  has := fun y h => by
    have h' := relabel_look (env := X.env) hcell h
    have hm : (y, NameKind.free) ∈ scope.names := by
      have aux : ∀ {l : List (Str × NameKind)}, l.lookup y = some .free → (y, NameKind.free) ∈ l := by
        intro l
        induction l with
        | nil => intro z; simp at z
        | cons p r ih =>
          intro z
          obtain ⟨n, k⟩ := p
          rw [List.lookup_cons] at z
          cases e : y == n with
          | true => rw [e] at z; cases z; rw [eq_of_beq e]; exact List.mem_cons_self
          | false => rw [e] at z; exact List.mem_cons_of_mem _ (ih z)
      exact aux h'
    have q : ((NameKind.free != NameKind.free) || (cl.lookup y).isSome) = true := List.all_eq_true.mp hfree _ hm
    have q' : (cl.lookup y).isSome = true := by rw [bne_self_eq_false, Bool.false_or] at q; exact q
    exact Option.isSome_iff_exists.mp q'
  cab := fun _ _ h _ => by cases h
  hd := I.ok.hd
  frames := I.ok.frames
  stk := .inl rfl
  exf := fun b hb => ⟨Nat.ne_of_lt (Nat.lt_of_lt_of_le (hfl b hb) hC), fun y c e => (hf b hb).2.2.2.2.1 y c (hcl.look e)⟩
  bs := I.bs
  bsz := Nat.le_trans I.ok.bsz I.sz
  noex := fun b o e hb => by
    rcases (hf b hb).2.2.2.1 with q | q
    · exact I.ok.noex b o e q
    · exact absurd (Nat.lt_of_lt_of_le (Heap.lt_size e) (Nat.le_trans I.ok.bsz q)) (Nat.lt_irrefl _)
  exfs := fun b hb z => by
    rcases List.mem_cons.mp (I.stkSub b z) with q | q
    · exact (hf b hb).2.1 q
    · exact (hf b hb).2.2.1 q
  funs := I.stack
  frf := I.stkFree
def CompOut (X:Cx) (pins:List (Addr × Obj)) (σ:St) (Q:VK) (acc:Value) (C:Addr) (r:Result) (s':Shared):Prop:=match r with
 | .ok _=>∃ (D:Addr) (H':Hp) (m:Str→Option Value),acc = .ref D∧Inv X pins σ H' s'∧s'.heap.Ns C m∧FpOk X pins H' C∧Q (.ref D) H'
 | .error _=>False
theorem unlet {M:Model} {A:Around} {E:Value→Shared→Prop} {s:Shared} {x:Str} {px:Pos} {it u:Value} {Q1:Unit→Shared→Prop} {α:Type} {t:Sem α} {Q2:α→Shared→Prop} (h:wpAny M A (letOwnedTupleGo (.Name x px) it u) Q1 E s) (k : ∀ s,Q1 () s→wpAny M A t Q2 E s):wpAny M A t Q2 E s:=by
 have z:wpAny M A (letOwnedTupleGo (.Name x px) it u >>= fun _=>t) Q2 E s:=wpAny_bind (thn h fun _ s q=>k s q)
 rw [show letOwnedTupleGo (.Name x px) it u=pure () from rfl,pure_bind] at z
 exact z
theorem comp_core {pins : List (Addr × Obj)} {σ : St} {Q : VK} {E : Value → Shared → Prop} {s₂ : Shared} {H₂ : Hp} {it : Addr} {fp : List Addr} {tn : Nat → Heap → Prop} {J : It}
    (hc : X.calm = true) (hcell : ∀ y ∈ scope.names, y.2 ≠ .cell) (hkind : scope.kind = .function) (hx : scope.names.lookup x = some .local) (hcl : ClOk X.env.cells cl)
    (hfree : (scope.names.all fun p => p.2 != .free || (cl.lookup p.1).isSome) = true) (hfr : FrOk X scope fr is) (hnd : (x :: fr).Nodup)
    (ht : ∀ C s₂ H₂ fp, PIfs (cxComp X scope cl (x :: fr) C s₂ H₂ fp) ifs tt) (he : ∀ C s₂ H₂ fp, PE (cxComp X scope cl (x :: fr) C s₂ H₂ fp) elt te)
    (I : Inv X pins σ H₂ s₂) (T : Turn X.prog X.w X.K (.Name x px) J fp it tn) (st : tn 0 s₂.heap) (hf : ∀ b ∈ fp, FpOk X pins H₂ b) (R : kComp is tt te σ Q J H₂) :
    wpAny (model X.prog X.w) X.A (newList []) (fun acc s₃ => wpAny (model X.prog X.w) X.A (newFunctionEnv scope X.env.globals cl [] X.env.qual none .none (some X.env)) (fun cenv s₄ =>
      codeAny (model X.prog X.w) X.A (.compStart (.ListComp elt [⟨.Name x px, iter, ifs, 0⟩] scope pos) 0 (.ref it) acc { cenv with scope := relabel scope X.env }) (CompOut X pins σ Q acc cenv.locals) s₄) E s₃) E s₂ := by
  obtain ⟨W, ⟨m0, w0⟩, turn⟩ := R
  refine wpAny_newObj_type (wpAny_newFunctionEnv hcell (by intro y hy; simp at hy) (fun h₁ hns₁ hsb₁ => ?_) hkind)
  dsimp only at hns₁ hsb₁ ⊢
  generalize hH2 : s₂.heap.push { cls := .type "list", dict := none, data := .seq ([] : List Value).toArray } = G2 at hns₁ hsb₁ ⊢
  have hC : G2.objs.size = s₂.heap.objs.size + 1 := by rw [← hH2, Heap.size_push]
  have hDC : s₂.heap.objs.size ≠ G2.objs.size := by rw [hC]; exact Nat.ne_of_lt (Nat.lt_succ_self _)
  have below : ∀ b, b < s₂.heap.objs.size → b ≠ G2.objs.size ∧ b ≠ s₂.heap.objs.size := fun b hb => ⟨by rw [hC]; exact Nat.ne_of_lt (Nat.lt_succ_of_lt hb), Nat.ne_of_lt hb⟩
  have hfl : ∀ b ∈ fp, b < s₂.heap.objs.size := fun b hb => by obtain ⟨o, e, _⟩ := T.obj _ _ st b hb; exact Heap.lt_size e
  have old : ∀ b o, s₂.heap.get? b = some o → h₁.get? b = some o := fun b o e => hsb₁.extBut b o (below b (Heap.lt_size e)).1 (Heap.get?_push_of_some _ (hH2 ▸ Heap.get?_push_of_some _ e))
  have hacc : h₁.get? s₂.heap.objs.size = some { cls := .type "list", data := .seq ([] : List Value).toArray 0 } := hsb₁.extBut _ _ hDC (Heap.get?_push_of_some _ (hH2 ▸ Heap.get?_push_size _ rfl))
  have hfresh : ∀ b, s₂.heap.objs.size ≤ b → H₂ b = none := fun b hb => I.hok.fresh hb
  have hCle : s₂.heap.objs.size ≤ G2.objs.size := by rw [hC]; exact Nat.le_succ _
  generalize hCe : G2.objs.size = C at *
  generalize hDe : s₂.heap.objs.size = D at *
  have ok : (cxComp X scope cl (x :: fr) C s₂ H₂ fp).Ok := cxComp_ok I (by rw [hDe]; exact hCle) hf (by rw [hDe]; exact hfl) hcell hkind hcl hfree
  have hYc : (cxComp X scope cl (x :: fr) C s₂ H₂ fp).calm = true := hc
  have hDfp : ∀ b ∈ fp, b ≠ D := fun b hb => Nat.ne_of_lt (hfl b hb)
  have hDst : D ∉ frs X.stack := fun z => by
    rcases List.mem_cons.mp (I.stkSub D z) with q | q
    · have := I.lt; rw [hDe, ← q] at this; exact Nat.lt_irrefl _ this
    · exact I.nofs (by rw [hDe]; exact Nat.le_refl _) q
  have hfY : ∀ {H' : Hp} {its : List Value} {n : Nat}, (∀ b ∈ fp, H' b = none) → ∀ b ∈ fp, FpOk (cxComp X scope cl (x :: fr) C s₂ H₂ fp) [(D, { cls := .type "list", data := .seq its.toArray n })] H' b := fun hn b hb =>
    ⟨hn b hb, (ok.exf b hb).1, ok.exfs b hb, .inl hb, (ok.exf b hb).2, fun p hp => by
      have e : p = (D, { cls := .type "list", data := .seq _ _ }) := List.mem_singleton.mp hp
      rw [e]; exact Ne.symm (hDfp b hb)⟩
  have lenF : (is.map fun j => (σ[j]?).getD none).length = fr.length := by rw [List.length_map, hfr.len]
  have I0 : Inv (cxComp X scope cl (x :: fr) C s₂ H₂ fp) [(D, { cls := .type "list", data := .seq ([] : List Value).toArray 0 })] (none :: is.map fun j => (σ[j]?).getD none) H₂ { s₂ with heap := h₁, toks := s₂.toks + ([] : List (Str × Value)).length } := by
    refine ⟨ok, rfl, I.bare, Un.kept old, ⟨_, hns₁, fun i y v e1 e2 e3 => ?_⟩, fun y c e => ?_, hfresh C hCle, fun y c e => I.freeC y c (hcl.look e), fun p hp => ?_, I.hok.kept old, ?_⟩
    · cases i with
      | zero => cases e2
      | succ k =>
        have e1' : fr[k]? = some y := e1
        have e2' : (is.map fun j => (σ[j]?).getD none)[k]? = some (some v) := e2
        obtain ⟨j, hj, hN, hfy, hkx⟩ := hfr.get e1'
        rw [List.getElem?_map, hj] at e2'
        have e4 : (σ[j]?).getD none = some v := Option.some.inj e2'
        have e5 : σ[j]? = some (some v) := by
          cases q : σ[j]? with
          | none => rw [q] at e4; cases e4
          | some o => rw [q] at e4; have e4' : o = some v := e4; rw [e4']
        obtain ⟨m, hn, hl⟩ := id I.loc
        have hvis : Vis X.env.scope y := hkx.elim (fun q => .inr (.inl q)) fun q => .inr (.inr q)
        obtain ⟨u, r, lk⟩ := hl j y v hN e5 hvis
        refine ⟨u, r, .inr ⟨relabel_free I.ok.kind hfy hkx, ?_⟩⟩
        rcases lk with ⟨kl, _⟩ | ⟨_, c, ec, ic⟩
        · rcases hkx with q | q <;> rw [kl] at q <;> cases q
        · obtain ⟨c', ec'⟩ := ok.has y (relabel_free I.ok.kind hfy hkx)
          have : c' = c := Option.some.inj ((hcl.look ec').symm.trans ec)
          rw [this] at ec'
          obtain ⟨o, ho, hd⟩ := ic
          exact ⟨c, ec', o, old c o ho, hd⟩
    · obtain ⟨v, o, ho, hd⟩ := I.cell y c (hcl.look e)
      exact ⟨v, o, old c o ho, hd⟩
    · have e : p = (D, { cls := .type "list", data := .seq ([] : List Value).toArray 0 }) := List.mem_singleton.mp hp
      rw [e]
      exact ⟨hacc, hfresh D (Nat.le_refl _), hDC, hDst, fun v z => by cases z⟩
    · show (none :: _).length = (x :: fr).length
      rw [List.length_cons, List.length_cons, lenF]
  have loop : ∀ s₃ : Shared, s₃ = { s₂ with heap := h₁, toks := s₂.toks + ([] : List (Str × Value)).length } →
      codeAny (model X.prog X.w) X.A (.compLoop (.ListComp elt [⟨.Name x px, iter, ifs, 0⟩] scope pos) 0 (.ref it) (.ref D) (compEnvC scope cl C X.env)) (CompOut X pins σ Q (.ref D) C) s₃ := by
    rintro s₃ rfl
    refine codeAny_compLoop_tests (fun n s' => ∃ (i : Nat) (o : Option V) (ys : List V) (its : List Value) (k : Nat) (H' : Hp), Inv (cxComp X scope cl (x :: fr) C s₂ H₂ fp) [(D, { cls := .type "list", data := .seq its.toArray k })] (o :: is.map fun j => (σ[j]?).getD none) H' s' ∧
      tn i s'.heap ∧ (∀ b ∈ fp, H' b = none) ∧ Vals ys its ∧ W i n ys H') ?_ m0 ⟨0, none, [], [], 0, H₂, I0, T.keep _ _ _ st fun b _ o e => old b o e, fun b hb => (hf b hb).1, .nil, w0⟩
    rintro n s' ⟨i, o, ys, its, k, H', I', st', fr', vs, w'⟩
    obtain ⟨hlen, ⟨stop, fin⟩ | ⟨go, hlt, step⟩⟩ := turn i n ys H' w'
    · refine wpAny_mono (T.done (cxComp X scope cl (x :: fr) C s₂ H₂ fp) rfl rfl rfl hYc i _ s' _ H' (fun _ _ => False) I' (hfY fr') st' stop) (fun r s1 ⟨hr, I1⟩ => ?_) fun _ _ z => z.elim
      subst hr
      obtain ⟨pD, nD, _, _, _⟩ := I1.pin _ (List.mem_append_right _ (List.mem_singleton.mpr rfl))
      have IX : Inv X pins σ H' s1 := I.call' I1.os I1.base I1.hok I1.bare fun b hb => ⟨(hf b hb).2.2.2.1, (hf b hb).2.1, (hf b hb).2.2.2.2.1, (hf b hb).2.2.2.2.2⟩
      have fD : FpOk X pins H' D := I.fpOk (by rw [hDe]; exact Nat.le_refl _) nD
      obtain ⟨m, hn, _⟩ := id I1.loc
      have hC' : H' C = none := I1.free
      refine ⟨D, upd H' D (.lst ys), m, rfl, IX.track fD ⟨hlen, its, k, vs, pD⟩, hn, I.fpOk (by rw [hDe]; exact hCle) (by rw [upd_ne (Ne.symm hDC)]; exact hC'), fin D nD⟩
    · refine wpAny_mono (T.item (cxComp X scope cl (x :: fr) C s₂ H₂ fp) rfl rfl rfl hYc i _ s' _ H' (fun _ _ => False) I' (hfY fr') st' go) (fun r s1 ⟨u, hr, h4⟩ => ?_) fun _ _ z => z.elim
      subst hr
      refine wpAny_mono (unlet (Q2 := fun _ s6 => _) h4 fun s2 ⟨v, H5, I5, r5, y5, st5, fr5⟩ => ?_) (fun _ _ q => q) fun _ _ z => z.elim
      have I5' := I5.pinned (hfY fr5) (T.obj _ _ st5)
      refine thn (pg_name (X := cxComp X scope cl (x :: fr) C s₂ H₂ fp) (i := 0) hnd rfl (.inl (lookup_relabel_local hx)) (.inr (lookup_relabel_local hx)) _ s2 _ H5 v u (fun σ' H' => σ' = (some v :: is.map fun j => (σ[j]?).getD none) ∧ H' = H5) I5' r5 ⟨rfl, rfl⟩) fun _ s6 ⟨σ6, H6, I6, e6, e7⟩ => ?_
      subst e6 e7
      refine wpAny_mono (ht C s₂ H₂ fp _ s6 _ H6 _ I6 (step v H6 y5)) (fun ok7 s7 ⟨H7, I7, q7⟩ => ?_) fun _ _ z => z.elim
      have keep : ∀ {σ8 : St} {H8 : Hp} {s8 : Shared}, Inv (cxComp X scope cl (x :: fr) C s₂ H₂ fp) ([(D, { cls := .type "list", data := .seq its.toArray k })] ++ pinsAt fp s2.heap) σ8 H8 s8 → tn (i + 1) s8.heap ∧ ∀ b ∈ fp, H8 b = none := fun {σ8 H8 s8} I8 =>
        ⟨T.keep _ _ _ st5 fun b hb o e => (I8.pin (b, o) (List.mem_append_right _ (List.mem_append_right _ (mem_pinsAt hb e)))).1, fun b hb => by
          obtain ⟨o, e, d⟩ := T.obj _ _ st5 b hb
          exact (I8.pin (b, o) (List.mem_append_right _ (List.mem_append_right _ (mem_pinsAt hb e)))).2.1⟩
      cases ok7 with
      | false =>
        obtain ⟨m', hm', w7⟩ := q7
        exact ⟨m', hm', i + 1, _, ys, its, k, H7, I7.unpinned, (keep I7).1, (keep I7).2, vs, w7⟩
      | true =>
        refine wpAny_mono (he C s₂ H₂ fp _ s7 _ H7 _ I7 q7) (fun yv s8 ⟨y, H8, I8, r8, m', hm', w8⟩ => ?_) fun _ _ z => z.elim
        obtain ⟨pD, nD, neD, nfD, ncD⟩ := I8.pin (D, { cls := .type "list", data := .seq its.toArray k }) (List.mem_append_right _ (List.mem_append_left _ (List.mem_singleton.mpr rfl)))
        have hl := vs.length
        refine append_at (hsz := by rw [List.size_toArray, ← hl]; exact hlen) pD fun h9 sb9 hD9 => ?_
        obtain ⟨st8, fr8⟩ := keep I8
        have I8' : Inv (cxComp X scope cl (x :: fr) C s₂ H₂ fp) [] (some v :: is.map fun j => (σ[j]?).getD none) H8 s8 := I8.pins_of fun p hp => nomatch hp
        have I9 : Inv (cxComp X scope cl (x :: fr) C s₂ H₂ fp) [] (some v :: is.map fun j => (σ[j]?).getD none) H8 { s8 with heap := h9 } :=
          I8'.turned (t' := s8.toks) (fun b o hb e => (sb9.2 b hb).trans e) nD neD (.inr (by rw [← hDe]; exact Nat.le_refl _)) (fun y' c e z => by
            obtain ⟨v', o', ho', hd'⟩ := I8'.cell y' c e
            rw [z, pD] at ho'; cases ho'; cases hd') (fun p hp => nomatch hp)
        refine ⟨m', hm', i + 1, _, ys ++ [y], its ++ [yv], k + 1, H8, I9.pins_of fun p hp => ?_, T.keep _ _ _ st8 fun b hb o e => (sb9.2 b (hDfp b hb)).trans e, fr8, vs.append (.cons r8 .nil), w8⟩
        rw [List.mem_singleton.mp hp]
        refine ⟨?_, nD, neD, nfD, fun v z => by cases z⟩
        rw [← List.push_toArray]
        exact hD9
  exact codeAny_compStart_list (loop _ rfl) (T.self _ 0 _ _ _ (T.keep _ _ _ st fun b _ o e => old b o e) (loop _ rfl))
theorem pe_comp (hc : X.calm = true) (hclos : closureFor scope X.env = pure cl) (hcl : ClOk X.env.cells cl) (hfree : (scope.names.all fun p => p.2 != .free || (cl.lookup p.1).isSome) = true) (hfr : FrOk X scope fr is) (hnd : (x :: fr).Nodup)
    (hcell : ∀ y ∈ scope.names, y.2 ≠ .cell) (hkind : scope.kind = .function) (hnames : ∀ y ∈ scope.names, y.2 = .local → scope.names.lookup y.1 = some .local) (hx : scope.names.lookup x = some .local)
    (hi : PI X (.Name x px) iter wi) (ht : ∀ C s₂ H₂ fp, PIfs (cxComp X scope cl (x :: fr) C s₂ H₂ fp) ifs tt) (he : ∀ C s₂ H₂ fp, PE (cxComp X scope cl (x :: fr) C s₂ H₂ fp) elt te) (hs : ∀ x, foldedSetIterable iter X.env x = pure x := by intro _; rfl) :
    PE X (.ListComp elt [⟨.Name x px, iter, ifs, 0⟩] scope pos) (tComp is wi tt te) := by
  intro pins s σ H Q I h
  rw [eval_ListComp]
  refine wpAny_comprehension_free (use := none) rfl hs hclos hkind hnames (thn (hi pins s σ H _ I h) fun v s1 h1 => thn h1 fun itv s2 h2 => ?_)
  obtain ⟨it, fp, tn, J, H2, e, I2, T, st2, f2, R⟩ := h2
  subst e
  refine thn (comp_core hc hcell hkind hx hcl hfree hfr hnd ht he I2 T st2 f2 R) fun acc s3 h3 => thn h3 fun cenv s4 h4 => codeAny_mono h4 fun r s' q => ?_
  cases r with
  | error e => exact q.elim
  | ok f =>
    obtain ⟨D, H', m, rfl, I', hn, fC, q⟩ := q
    obtain ⟨f0, f1, _, f3, f4, f5⟩ := fC
    exact ⟨m, hn, fun h' sb => ⟨.ref D, H', I'.turned (t' := s'.toks) (fun b o hb e => (sb.2 b hb).trans e) f0 f1 f3 f4 f5, rfl, q⟩⟩
end
section
variable {K : W.Frag} {σ : St} {H : Hp} {Q : VK} {is : List Nat} {tt : TT} {te : TE}
def kCompL (K:W.Frag) (is:List Nat) (tt:TT) (te:TE) (σ:St) (Q:VK) (x:V) (H:Hp):Prop:=∃ a,x = .ref a∧(∃ xs,SqL K H a xs)∧kComp is tt te σ Q (Itl K a) H
theorem r_compL {tl:TE} (h:tl σ H (kCompL K is tt te σ Q)):tComp is (iList K tl) tt te σ H Q:=h
def NxC (n:Nat) (Pv:Nat→List V→Hp→Prop) (i:Nat) (ys:List V) (H:Hp):Prop:=∃ m',m' < n - i∧m'=n - (i+1)∧i+1≤n∧Pv (i+1) ys H
theorem nxC {n:Nat} {Pv:Nat→List V→Hp→Prop} {i:Nat} {ys:List V} {H:Hp} (h:i < n) (p:Pv (i+1) ys H):NxC n Pv i ys H:=⟨_,by omega,rfl,h,p⟩
theorem r_noIf {s:St} {R:Bool→Hp→Prop} (h:R true H):tNoIf s H R:=h
theorem r_kCompL {a:Addr} {xs:List V} (hx:SqL K H a xs) (hz:xs.length≤sizeLine) (Pv:Nat→List V→Hp→Prop) (h0:Pv 0 [] H) (hl : ∀ i ys H,i≤xs.length→Pv i ys H→SqL K H a xs∧ys.length≤i)
  (hs : ∀ i x ys H,xs[i]? = some x→i < xs.length→Pv i ys H→tt (some x::is.map fun j=>(σ[j]?).getD none) H fun ok H2=>if ok=true then te (some x::is.map fun j=>(σ[j]?).getD none) H2 fun y H3=>NxC xs.length Pv i (ys++[y]) H3 else NxC xs.length Pv i ys H2)
  (hd : ∀ ys H,Pv xs.length ys H → ∀ p H',Same H H'→H' p=some (.lst ys)→Q (.ref p) H'):kCompL K is tt te σ Q (.ref a) H:=by
 refine ⟨a,rfl,⟨xs,hx⟩,fun i m ys H=>m=xs.length - i∧i≤xs.length∧Pv i ys H,⟨xs.length,by simp,Nat.zero_le _,h0⟩,?_⟩
 rintro i m ys H ⟨rfl,hi,p⟩
 obtain ⟨q,ly⟩:=hl i ys H hi p
 refine ⟨by omega,?_⟩
 by_cases hlt:i < xs.length
 ·refine .inr ⟨⟨xs,xs[i],q,by simp [hlt]⟩,by omega,fun x H' y=>?_⟩
  obtain ⟨e,y⟩:=y
  subst e
  exact hs i x ys _ (y xs q) hlt p
 ·have e:i=xs.length:=by omega
  subst e
  exact .inl ⟨⟨xs,q,Nat.le_refl _⟩,fun p' hp=>hd ys H p p' _ (same_new hp _) upd_same⟩
def kCompR (is:List Nat) (tt:TT) (te:TE) (σ:St) (Q:VK) (vs:List V) (H:Hp):Prop:=∃ j:Int,vs=[.int j] ∧ -(2 ^ 62)≤j∧j < 2 ^ 62∧kComp is tt te σ Q (Itr 0 j.toNat) H
theorem r_compR {ta:TA} (h:ta σ H (kCompR is tt te σ Q)):tComp is (iRng1 ta) tt te σ H Q:=h
theorem r_kCompR {j:Int} (h1 : -(2 ^ 62)≤j) (h2:j < 2 ^ 62) (hz:j.toNat≤sizeLine) (Pv:Nat→List V→Hp→Prop) (h0:Pv 0 [] H) (hl : ∀ i ys H,i≤j.toNat→Pv i ys H→ys.length≤i)
  (hs : ∀ i ys H,i < j.toNat→Pv i ys H→tt (some (.int (0+i))::is.map fun j=>(σ[j]?).getD none) H fun ok H2=>if ok=true then te (some (.int (0+i))::is.map fun j=>(σ[j]?).getD none) H2 fun y H3=>NxC j.toNat Pv i (ys++[y]) H3 else NxC j.toNat Pv i ys H2)
  (hd : ∀ ys H,Pv j.toNat ys H → ∀ p H',Same H H'→H' p=some (.lst ys)→Q (.ref p) H'):kCompR is tt te σ Q [.int j] H:=by
 refine ⟨j,rfl,h1,h2,fun i m ys H=>m=j.toNat - i∧i≤j.toNat∧Pv i ys H,⟨j.toNat,by simp,Nat.zero_le _,h0⟩,?_⟩
 rintro i m ys H ⟨rfl,hi,p⟩
 have ly:=hl i ys H hi p
 refine ⟨by omega,?_⟩
 by_cases hlt:i < j.toNat
 ·refine .inr ⟨hlt,by omega,fun x H' y=>?_⟩
  obtain ⟨e,y⟩:=y
  subst e y
  exact hs i ys _ hlt p
 ·have e:i=j.toNat:=by omega
  subst e
  exact .inl ⟨Nat.le_refl _,fun p' hp=>hd ys H p p' _ (same_new hp _) upd_same⟩
end
section
variable {K : W.Frag} {σ : St} {H : Hp} {Q : VK}
theorem r_slice {r:V→Option Int→Option Int→Hp→VK→Prop} {te:TE} {tl th:TO} (h:te σ H fun x H1=>tl σ H1 fun l H2=>th σ H2 fun u H3=>r x l u H3 Q):tSl r te tl th σ H Q:=h
theorem r_noPart {R:Option Int→Hp→Prop} (h:R none H):tNoPart σ H R:=h
theorem r_part {t:TE} {R:Option Int→Hp→Prop} (h:t σ H fun x H1=>∃ i,x = .int i∧R (some i) H1):tPart t σ H R:=h
theorem r_exint {i:Int} {R:Int→Prop} (h:R i) : ∃ k,V.int i = .int k∧R k:=⟨i,rfl,h⟩
theorem r_slL {a:Addr} {xs:List V} {lo hi:Option Int} (h:SqL K H a xs) (q : ∀ p H',Same H H'→H' p=some (.lst (cutV xs lo hi))→Q (.ref p) H'):rSlL K (.ref a) lo hi H Q:=⟨a,xs,rfl,h,fun p hp=>q p _ (same_new hp _) upd_same⟩
theorem r_cat {l b:Addr} {xs zs:List V} (h1:H l=some (.lst xs)) (h2:H b=some (.lst zs)) (hz:xs.length+zs.length≤sizeLine) (q : ∀ p H',Same H H'→H' p=some (.lst (xs++zs))→Q (.ref p) H'):rCat (.ref l) (.ref b) H Q:=
 ⟨l,b,xs,zs,rfl,rfl,h1,h2,hz,fun p hp=>q p _ (same_new hp _) upd_same⟩
end
theorem r_int1d {c:Prop} [Decidable c] {Q:VK} {H:Hp} (h1:c→Q (.int 1) H) (h2 : ¬ c→Q (.int 0) H):rInt1 [.bl (decide c)] H Q:=by
 by_cases h:c
 ·rw [decide_eq_true h];exact r_int1b (h1 h)
 ·rw [decide_eq_false h];exact r_int1b (h2 h)
set_option maxHeartbeats 400000
abbrev VEB:List Value:=[.type "ValueError", .type "Exception", .type "BaseException", .type "object"]
structure Exc (K:W.Frag) (C:Addr):Prop where
 ex:W.excIn K C VEB "ValueError.__new__" = true
 h1:W.findIn K (.ref C) "__getattribute__" = some (some (.builtin "BaseException.__getattribute__"))
 h2:W.findIn K (.ref C) "__getattr__" = some none
 hb:W.mroIn K C (.type "BaseException")=some true
 hd:W.hasDictIn K C=true
 ha:W.findIn K (.ref C) "__class__" = some (some (.builtin "object.__class__"))
 hn:W.specialIn K (.builtin "object.__class__") "__get__" = some (some (.builtin "getset_descriptor.__get__"))
 ht:W.takesIn K (.builtin "object.__class__")=some true
 hm:W.mroIn K C (.type "object")=some true
def ExAt (x C:Addr) (h:Heap):Prop:=∃ o,h.get? x=some o∧o.cls = .ref C ∧ ∃ vs,o.data = .fields vs
theorem ExAt.keep {x C:Addr} {h h':Heap} (e:ExAt x C h) (k : ∀ o,h.get? x=some o→h'.get? x=some o):ExAt x C h':=let ⟨o,a,b⟩:=e;⟨o,k o a,b⟩
section
open PySem.W PySem.Calls Builtin Builtin.ObjectAttr Builtin.Getset_descriptor
variable {K : Frag} {x C : Addr} {M : Model} {h : Heap}
theorem ExAt.ty (e:ExAt x C h):Looks M h (typeOf (.ref x)) (.ref C):=by
 obtain ⟨o,h1,h2,_⟩:=e
 rw [← h2]
 exact (Looks.ld h1).andThen .now
variable {prog : Program} {w : World} {A : Around} {E : Value → Shared → Prop} {s : Shared}
end
def CXE (P:Program) (w:World):CXT:=fun outer H s E e s'=>∃ (x C:Addr) (a0:Value) (H':Hp) (B:Heap),e = .ref x∧s'.os=s.os∧AllBare s'.gens∧Heap.FlyingW B outer x (.ref C) a0 s'.heap ∧
 (∀ h',B.StaysIn h'→s'.heap.UpToSlots h'→Un (frs outer) [] H H' s.heap h'∧HOk P w H' h')∧s.heap.get? x=none∧H' x=none∧E (.ref C) none H'
def XP (X:Cx) (pins:List (Addr × Obj)) (σ:St) (E:XK) (e:Value) (s':Shared):Prop:=∃ H1 s1,Inv X pins σ H1 s1∧CXE X.prog X.w X.stack H1 s1 E e s'
section
variable {X : Cx} {H : Hp} {Q : VK} {K : W.Frag}
theorem FnOk.calm {P : Program} {w : World} {K : W.Frag} {mg : Str → Option Value} {base : Heap} {k : Nat} {f : Addr} {fd : FuncData} {ps : List Str} {sp : Sp} (F : FnOk P w K mg base (CXE P w) k f fd ps sp) : FnOk P w K mg base CX0 k f fd ps (fun vs H Q _ => sp vs H Q E0) :=
  ⟨fun vs H Q _ h => F.len vs H Q E0 h, fun A outer s H args us vs Q _ hr he hb hv hs => codeAny_mono (F.run A outer s H args us vs Q E0 hr he hb hv hs) fun r s' hq => by
    cases r with
    | ok fl => cases fl <;> exact hq
    | error e =>
      obtain ⟨_, _, _, _, _, _, _, _, _, _, _, _, z⟩ := hq
      exact z.elim⟩
end
section
variable {X : Cx} {H : Hp} {Q : VK} {K : W.Frag} {σ : St} {pos p1 p2 : Pos} {n1 n2 : Nat} {a b : Int}
def dctO (p:Addr):HO:=.ext (W.KitAt p "dict")
inductive Odd (H:Hp):V→Prop where
 | non:Odd H .non
 | bl (b:Bool):Odd H (.bl b)
 | str (x:Str):Odd H (.str x)
 | lst {p:Addr} {xs:List V} (e:H p=some (.lst xs)):Odd H (.ref p)
 | tup {p:Addr} {xs:List V} (e:H p=some (.tup xs)):Odd H (.ref p)
 | dct {p:Addr} (e:H p=some (dctO p)):Odd H (.ref p)
theorem Odd.same {H H':Hp} {v:V} (h:Odd H v) (g:Same H H'):Odd H' v:=by
 cases h with
 | non=>exact .non
 | bl b=>exact .bl b
 | str x=>exact .str x
 | lst e=>exact .lst (g _ _ e)
 | tup e=>exact .tup (g _ _ e)
 | dct e=>exact .dct (g _ _ e)
def rIsiO (K:W.Frag):List V→Hp→VK→Prop:=fun xs H Q=>rIsi K xs H Q ∨ ∃ p T b,xs=[.ref p,.ty T]∧H p=some (dctO p)∧W.kitOne K (.type "dict") (.type T)=some b∧Q (.bl b) H
theorem r_isiO_bl {i:Bool} {T:String} {b:Bool} (e:W.kitOne K (.type "bool") (.type T)=some b) (q:Q (.bl b) H):rIsiO K [.bl i,.ty T] H Q:=.inl (r_isi (.bl i) ⟨_,.inl rfl⟩ e q)
theorem r_isiO_str {x:Str} {T:String} {b:Bool} (e:W.kitOne K (.type "str") (.type T)=some b) (q:Q (.bl b) H):rIsiO K [.str x,.ty T] H Q:=.inl (r_isi (.str x) ⟨_,.inl rfl⟩ e q)
theorem r_isiO_non {T:String} {b:Bool} (e:W.kitOne K (.type "NoneType") (.type T)=some b) (q:Q (.bl b) H):rIsiO K [.non,.ty T] H Q:=.inl (r_isi .non ⟨_,.inl rfl⟩ e q)
theorem r_isiO_lst {p:Addr} {xs:List V} {T:String} {b:Bool} (h:H p=some (.lst xs)) (e:W.kitOne K (.type "list") (.type T)=some b) (q:Q (.bl b) H):rIsiO K [.ref p,.ty T] H Q:=.inl (r_isi (.lst h) ⟨_,.inl rfl⟩ e q)
theorem r_isiO_tup {p:Addr} {xs:List V} {T:String} {b:Bool} (h:H p=some (.tup xs)) (e:W.kitOne K (.type "tuple") (.type T)=some b) (q:Q (.bl b) H):rIsiO K [.ref p,.ty T] H Q:=.inl (r_isi (.tup h) ⟨_,.inl rfl⟩ e q)
theorem r_isiO_dct {p:Addr} {T:String} {b:Bool} (h:H p=some (dctO p)) (e:W.kitOne K (.type "dict") (.type T)=some b) (q:Q (.bl b) H):rIsiO K [.ref p,.ty T] H Q:=.inr ⟨p,T,b,rfl,h,e,q⟩
theorem Odd.int {v:V} (h:Odd H v) (q1:Q (.bl true) H) (q0:Q (.bl false) H):rIsiO K [v,.ty "int"] H Q:=by
 cases h with
 | non=>exact r_isiO_non (kit_NoneType_int K) q0
 | bl b=>exact r_isiO_bl (kit_bool_int K) q1
 | str x=>exact r_isiO_str (kit_str_int K) q0
 | lst e=>exact r_isiO_lst e (kit_list_int K) q0
 | tup e=>exact r_isiO_tup e (kit_tuple_int K) q0
 | dct e=>exact r_isiO_dct e (kit_dict_int K) q0
def Nm (K:W.Frag) (x:Str) (C:Addr):Prop:=W.nsIn K mainGlobals x=some (some (.ref C))
theorem Nm.eq {x:Str} {C C':Addr} (h:Nm K x C) (h':Nm K x C'):C=C':=by
 have:=h.symm.trans h'
 cases this;rfl
theorem se_Constant {c:Const} {n:Nat} {p:Pos} {es:List Expr} {env:Env}:starEach (.Constant c n p::es) env=(false,eval (.Constant c n p) env)::starEach es env:=rfl
theorem se_Name {x:Str} {p:Pos} {es:List Expr} {env:Env}:starEach (.Name x p::es) env=(false,eval (.Name x p) env)::starEach es env:=rfl
theorem se_Subscript {a b:Expr} {p:Pos} {es:List Expr} {env:Env}:starEach (.Subscript a b p::es) env=(false,eval (.Subscript a b p) env)::starEach es env:=rfl
theorem se_Compare {a:Expr} {os:List CmpOp} {bs:List Expr} {p:Pos} {es:List Expr} {env:Env}:starEach (.Compare a os bs p::es) env=(false,eval (.Compare a os bs p) env)::starEach es env:=rfl
theorem r_bmL {T:String} {r:V→List V→Hp→VK→Prop} {to:TE} {t:TA} (h:to σ H fun x H1=>tyV K T x H1∧t σ H1 fun xs H2=>r x xs H2 Q):tBM K T r to t σ H Q:=h
theorem r_tyLL {p:Addr} {xs:List V} {R:Prop} (h:SqL K H p xs) (q:R):tyV K "list" (.ref p) H∧R:=⟨.inl ⟨rfl,_,h⟩,q⟩
theorem r_append {l:Addr} {xs:List V} {y:V} (h:H l=some (.lst xs)) (h2:xs.length < sizeLine) (q:Q .non (upd H l (.lst (xs++[y])))):rAppend (.ref l) [y] H Q:=⟨l,xs,y,rfl,rfl,h,h2,q⟩
def SB (r:Addr) (H F:Hp):Prop:=∀ b o,b≠r→H b=some o→F b=some o
theorem SB.then {r:Addr} {H F G:Hp} (h:SB r H F) (g:Same F G):SB r H G:=fun b u n e=>g _ _ (h b u n e)
theorem SB.refl {r:Addr} {H:Hp}:SB r H H:=fun _ _ _ e=>e
theorem SB.same {r:Addr} {H F:Hp} (h:SB r H F) (n:H r=none):Same H F:=fun b o e=>h b o (ne_of_none e n) e
end
section
variable {X : Cx} {H : Hp} {Q : VK} {K : W.Frag}
def rAddS:R2:=fun x y H Q=>∃ i j:Str,x = .str i∧y = .str j∧i.length+j.length≤sizeLine∧Q (.str (i++j)) H
theorem op_addS:OpR X (binaryOp .Add) rAddS:=op_add_str
theorem r_addS {i j:Str} (hz:i.length+j.length≤sizeLine) (q:Q (.str (i++j)) H):rAddS (.str i) (.str j) H Q:=⟨i,j,rfl,rfl,hz,q⟩
theorem r_ixS {z:Str} {i:Int} {c:Nat} (hz:z.length≤sizeLine) (e:atI z.cps.toList i=some c) (q:Q (.str ⟨#[c]⟩) H):rIxS (.str z) (.int i) H Q:=⟨z,i,c,rfl,rfl,hz,e,q⟩
def rLenT:List V→Hp→VK→Prop:=fun xs H Q=>∃ z:Str,xs=[.str z]∧z.length≤sizeLine∧Q (.int z.length) H
theorem call_lenT:CallR X (.builtin "len") rLenT:=call_len_str
theorem r_lenS {z:Str} (hz:z.length≤sizeLine) (q:Q (.int z.length) H):rLenT [.str z] H Q:=⟨z,rfl,hz,q⟩
def rInS:R2:=fun x y H Q=>∃ i j:Str,x = .str i∧y = .str j∧Q (.bl (!(Builtin.Str.occurrences j i 0 j.length 1).isEmpty)) H
theorem op_inS:OpR X (compareOp .In) rInS:=op_in_str
theorem r_inS {i j:Str} (q:Q (.bl (!(Builtin.Str.occurrences j i 0 j.length 1).isEmpty)) H):rInS (.str i) (.str j) H Q:=⟨i,j,rfl,rfl,q⟩
theorem r_eqT2 {i j:Str} (q:Q (.bl (decide (i=j))) H):rEq (.str i) (.str j) H Q:=r_eqS rfl q
theorem r_isi_ss {x:Str} (q:Q (.bl true) H):rIsi K [.str x,.ty "str"] H Q:=r_isi (.str x) ⟨_,.inl rfl⟩ (kit_str_str K) q
def rSlS:V→Option Int→Option Int→Hp→VK→Prop:=fun x lo hi H Q=>∃ z:Str,x = .str z∧z.length≤sizeLine∧Q (.str (Txt.slice z lo hi)) H
theorem sl_str:SlR X rSlS:=by
 intro pins s σ H x v vl vu lo hi sl Q I rx hs pl pu h
 obtain ⟨z,rfl,hz,q⟩:=h
 obtain ⟨t,rfl⟩:=rx
 refine ⟨"str", _,PySem.F.slot_str_getitem.lookup,typeIs_str _ _ _,?_⟩
 have fin : ∀ (t':Tok) (k:Nat),EP X pins σ Q (.str (Txt.slice z lo hi) t') { s with toks:=k }:=fun t' k=>⟨.str _,H,I.tok _,⟨t',rfl⟩,q⟩
 have le:=Nat.le_trans (Txt.slice_le z lo hi) hz
 cases pl <;> cases pu
 ·exact wpAny_getItem_str_slice (l:=none) (u:=none) (st:=none) hs rfl (post_val_or_str ⟨le,fin⟩)
 ·exact wpAny_getItem_str_slice (l:=none) (u:=some (_,_)) (st:=none) hs rfl (post_val_or_str ⟨le,fin⟩)
 ·exact wpAny_getItem_str_slice (l:=some (_,_)) (u:=none) (st:=none) hs rfl (post_val_or_str ⟨le,fin⟩)
 ·exact wpAny_getItem_str_slice (l:=some (_,_)) (u:=some (_,_)) (st:=none) hs rfl (post_val_or_str ⟨le,fin⟩)
theorem r_slS {z:Str} {lo hi:Option Int} (hz:z.length≤sizeLine) (q:Q (.str (Txt.slice z lo hi)) H):rSlS (.str z) lo hi H Q:=⟨z,rfl,hz,q⟩
end
abbrev Lt (x:Str):List Nat:=x.cps.toList
def T (l:List Nat):Str:=⟨l.toArray⟩
theorem Lt_T (l:List Nat):Lt (T l)=l:=rfl
theorem T_Lt (x:Str):T (Lt x)=x:=by cases x;simp [T,Lt]
theorem Lt_inj {x y:Str} (h:Lt x=Lt y):x=y:=by rw [← T_Lt x,← T_Lt y,h]
theorem T_eq {a b:List Nat}:T a=T b↔a=b:=⟨fun h=>by have:=congrArg Lt h;rwa [Lt_T,Lt_T] at this,fun h=>by rw [h]⟩
theorem len_Lt (x:Str):x.length=(Lt x).length:=rfl
theorem app_T (x y:Str):x++y=T (Lt x++Lt y):=Lt_inj (by rw [Lt_T];show (x.cps++y.cps).toList=_;simp)
theorem getD_app1 {a b:List Nat} {i:Nat} (h:i < a.length):(a++b).getD i 0=a.getD i 0:=by
 rw [List.getD_eq_getElem?_getD,List.getD_eq_getElem?_getD,List.getElem?_append_left h]
theorem getD_app2 {a b:List Nat} {i:Nat} (h:a.length≤i):(a++b).getD i 0=b.getD (i - a.length) 0:=by
 rw [List.getD_eq_getElem?_getD,List.getD_eq_getElem?_getD,List.getElem?_append_right h]
theorem fm_take (l : List Nat) (a : Nat) : ∀ m : Nat, (List.range m).filterMap (fun k => l[a + k]?) = (l.drop a).take m
  | 0 => by simp
  | m + 1 => by
    rw [List.range_succ, List.filterMap_append, fm_take l a m, List.take_succ]
    congr 1
    rw [List.getElem?_drop]
    rw [List.filterMap_cons]
    cases l[a + m]? <;> rfl
def cl (n d:Nat):Option Int→Nat
 | none=>d
 | some i=>(max 0 (min (if i < 0 then i+n else i) (n:Int))).toNat
theorem slice_T (z:Str) (lo hi:Option Int):Txt.slice z lo hi=T (((Lt z).take (cl (Lt z).length (Lt z).length hi)).drop (cl (Lt z).length 0 lo)):=by
 have e:Builtin.Str.strSliceIndices lo hi 1 z.length=(List.range (cl (Lt z).length (Lt z).length hi - cl (Lt z).length 0 lo)).map (fun x=>cl (Lt z).length 0 lo+x):=by
  rw [← sliceRange_one]
  unfold Builtin.Str.strSliceIndices
  cases lo <;> cases hi <;> simp [cl,len_Lt,Int.toNat_of_nonneg,Int.le_max_left]
 have k:(List.filterMap (fun x=>z.cps[x]?) (Builtin.Str.strSliceIndices lo hi 1 z.length))=((Lt z).take (cl (Lt z).length (Lt z).length hi)).drop (cl (Lt z).length 0 lo):=by
  rw [e,List.filterMap_map]
  have f:((fun x=>z.cps[x]?) ∘ fun x=>cl (Lt z).length 0 lo+x)=fun k=>(Lt z)[cl (Lt z).length 0 lo+k]?:=by funext k;simp [Lt]
  rw [f,fm_take,List.drop_take]
 unfold Txt.slice
 split
 ·rename_i h
  have hl:(Builtin.Str.strSliceIndices lo hi 1 z.length).length=(Lt z).length:=(by simpa using h:_=z.length)
  rw [e,List.length_map,List.length_range] at hl
  have b1:cl (Lt z).length (Lt z).length hi≤(Lt z).length:=by
   unfold cl;split <;> omega
  rcases Nat.eq_zero_or_pos (Lt z).length with p | p
  ·rw [List.eq_nil_of_length_eq_zero p];simp
   exact Lt_inj (List.eq_nil_of_length_eq_zero p)
  ·rw [show cl (Lt z).length 0 lo=0 by omega,show cl (Lt z).length (Lt z).length hi=(Lt z).length by omega,List.take_length,List.drop_zero,T_Lt]
 ·rw [k];rfl
section
variable {X : Cx} {H : Hp} {Q : VK} {K : W.Frag}
theorem rT_add {x y:Str} (hz:(Lt x).length+(Lt y).length≤16777216) (q:Q (.str (T (Lt x++Lt y))) H):rAddS (.str x) (.str y) H Q:=r_addS hz (by rw [app_T];exact q)
theorem rT_len {z:Str} (hz:(Lt z).length≤16777216) (q:Q (.int (Lt z).length) H):rLenT [.str z] H Q:=r_lenS hz q
theorem rT_ix {z:Str} {i:Int} (hz:(Lt z).length≤16777216) (h0:0≤i) (h1:i < (Lt z).length) (q:Q (.str (T [(Lt z).getD i.toNat 0])) H):rIxS (.str z) (.int i) H Q:=by
 refine r_ixS (c:=(Lt z).getD i.toNat 0) hz ?_ q
 unfold atI ixN
 rw [if_pos h0,if_pos h1]
 show (Lt z)[i.toNat]? = _
 rw [List.getD_eq_getElem?_getD,List.getElem?_eq_getElem (by omega)];rfl
theorem rT_ixK {z:Str} {i:Int} (n:Nat) (hn:(Lt z).length=n) (hz:n≤16777216) (h0:0≤i) (h1:i < n) (q : ∀ c,c ∈ Lt z→Q (.str (T [c])) H):rIxS (.str z) (.int i) H Q:=by
 refine rT_ix (by omega) h0 (by omega) (q _ ?_)
 rw [List.getD_eq_getElem?_getD,List.getElem?_eq_getElem (by omega)]
 exact List.getElem_mem _
theorem rT_ixL {z:Str} (hz:(Lt z).length≤16777216) (h1:0 < (Lt z).length) (q:Q (.str (T [(Lt z).getD ((Lt z).length - 1) 0])) H):rIxS (.str z) (.int (-1)) H Q:=by
 refine r_ixS (c:=(Lt z).getD ((Lt z).length - 1) 0) hz ?_ q
 unfold atI ixN
 rw [if_neg (show ¬ (0:Int) ≤ -1 by decide),if_pos (show -((Lt z).length:Int) ≤ -1 by omega)]
 show (Lt z)[((-1:Int)+(Lt z).length).toNat]? = _
 rw [show ((-1:Int)+(Lt z).length).toNat=(Lt z).length - 1 by omega,List.getD_eq_getElem?_getD,List.getElem?_eq_getElem (by omega)];rfl
theorem rT_sl0 {z:Str} {j:Int} (hz:(Lt z).length≤16777216) (h:0≤j) (q:Q (.str (T ((Lt z).take j.toNat))) H):rSlS (.str z) none (some j) H Q:=by
 refine r_slS hz ?_
 rw [slice_T]
 have e:(Lt z).take (cl (Lt z).length (Lt z).length (some j))=(Lt z).take j.toNat:=by
  unfold cl;dsimp only;rw [if_neg (by omega)]
  rcases Int.le_total j (Lt z).length with p | p
  ·rw [Int.min_eq_left p,Int.max_eq_right h]
  ·rw [Int.min_eq_right p,Int.max_eq_right (by omega),List.take_of_length_le (by omega),List.take_of_length_le (by omega)]
 rw [e];exact q
theorem cl_drop (l:List Nat) {i:Int} (h:0≤i) (n d:Nat) (hn:l.length≤n):l.drop (cl n d (some i))=l.drop i.toNat:=by
 unfold cl;dsimp only;rw [if_neg (by omega)]
 rcases Int.le_total i n with p | p
 ·rw [Int.min_eq_left p,Int.max_eq_right h]
 ·rw [Int.min_eq_right p,Int.max_eq_right (by omega),List.drop_of_length_le (by omega),List.drop_of_length_le (by omega)]
theorem cl_take (l:List Nat) {i:Int} (h:0≤i) (d:Nat):l.take (cl l.length d (some i))=l.take i.toNat:=by
 unfold cl;dsimp only;rw [if_neg (by omega)]
 rcases Int.le_total i l.length with p | p
 ·rw [Int.min_eq_left p,Int.max_eq_right h]
 ·rw [Int.min_eq_right p,Int.max_eq_right (by omega),List.take_of_length_le (by omega),List.take_of_length_le (by omega)]
theorem rT_sli {z:Str} {i:Int} (hz:(Lt z).length≤16777216) (h:0≤i) (q:Q (.str (T ((Lt z).drop i.toNat))) H):rSlS (.str z) (some i) none H Q:=by
 refine r_slS hz ?_
 rw [slice_T,cl_drop _ h _ _ (by rw [List.length_take];omega)]
 show Q (.str (T (((Lt z).take (Lt z).length).drop i.toNat))) H
 rw [List.take_length];exact q
theorem rT_slij {z:Str} {i j:Int} (hz:(Lt z).length≤16777216) (h:0≤i) (h':0≤j) (q:Q (.str (T (((Lt z).take j.toNat).drop i.toNat))) H):rSlS (.str z) (some i) (some j) H Q:=by
 refine r_slS hz ?_
 rw [slice_T,cl_drop _ h _ _ (by rw [List.length_take];omega),cl_take _ h']
 exact q
def rMulT:R2:=fun x y H Q=>∃ (z:Str) (n:Int),x = .str z∧y = .int n∧n < 16777216 ∧ -16777216 < n∧(Lt z).length*n.toNat≤16777216∧Q (.str (T (List.replicate n.toNat (Lt z)).flatten)) H
theorem foldl_app : ∀ (xs:List (Array Nat)) (a:Array Nat),(xs.foldl (fun x1 x2=>x1++x2) a).toList=a.toList++(xs.map Array.toList).flatten
 | [],a=>by simp
 | x::xs,a=>by rw [List.foldl_cons,foldl_app xs];simp
theorem mul_T (z:Str) (n:Int):Txt.mul z n=T (List.replicate n.toNat (Lt z)).flatten:=by
 unfold Txt.mul
 split
 ·rw [show n.toNat=0 by omega];rfl
 ·split
  ·rename_i h1 h2
   rw [Bool.or_eq_true] at h2
   rcases h2 with h | h
   ·have:n=1:=by simpa using h
    subst this
    show z=T ([Lt z].flatten)
    simp [T_Lt]
   ·have e:(Lt z).length=0:=(by simpa using h:z.length=0)
    have e':Lt z=[]:=List.eq_nil_of_length_eq_zero e
    refine Lt_inj ?_
    rw [Lt_T,e']
    simp
  ·refine Lt_inj ?_
   show (List.foldl (fun x1 x2=>x1++x2) #[] (List.replicate n.toNat z.cps)).toList=_
   rw [foldl_app,List.map_replicate,Lt_T]
   simp
theorem op_mulT:OpR X (binaryOp .Mult) rMulT:=by
 intro pins s σ H x y v u Q I rx ry h
 obtain ⟨z,n,rfl,rfl,h1,h2,h3,q⟩:=h
 obtain ⟨t,rfl⟩:=rx
 obtain ⟨t',rfl⟩:=ry
 refine SB.mul ⟨?_,fun h4 _=>?_,fun _ _=>?_⟩ fun t' k=>⟨.str _,H,I.tok _,⟨t',rfl⟩,by rw [mul_T];exact q⟩
 ·rw [decide_eq_false (by omega),decide_eq_false (by omega)];rfl
 ·have e:((Lt z).length:Int)*n≤16777216:=by
   have:=Int.ofNat_le.mpr h3
   rw [Int.natCast_mul,Int.toNat_of_nonneg (by omega)] at this;exact this
  intro h5
  have h6:=Int.mul_le_of_le_ediv (c:=n) (by omega) (Int.le_refl ((2 ^ 63 - 1) / n))
  have h7:((2:Int) ^ 63 - 1) / n+1≤(Lt z).length:=h5
  have h8:=Int.mul_le_mul_of_nonneg_right h7 (show 0≤n by omega)
  have h9:=Int.lt_ediv_add_one_mul_self ((2:Int) ^ 63 - 1) (show 0 < n by omega)
  omega
 ·unfold Builtin.Str.tooLong
  exact decide_eq_false (by show ¬ (Lt z).length*n.toNat > 16777216;omega)
theorem rT_mul1 {c:Nat} {n:Int} (h1:n < 16777216) (h2 : -16777216 < n) (q:Q (.str (T (List.replicate n.toNat c))) H):rMulT (.str (T [c])) (.int n) H Q:=
 ⟨T [c],n,rfl,rfl,h1,h2,by rw [Lt_T,List.length_singleton,Nat.one_mul];omega,by rw [Lt_T,List.flatten_replicate_singleton];exact q⟩
theorem r_neT2 {i j:Str} (q:Q (.bl (!decide (i=j))) H):rNe (.str i) (.str j) H Q:=⟨rfl,by
 have e:decide (V.str i=V.str j)=decide (i=j):=by
  by_cases h:i=j
  ·rw [decide_eq_true h,decide_eq_true (congrArg V.str h)]
  ·rw [decide_eq_false h,decide_eq_false (fun z=>h (V.str.inj z))]
 rw [e];exact q⟩
theorem rTT_add {a b:List Nat} (hz:a.length+b.length≤16777216) (q:Q (.str (T (a++b))) H):rAddS (.str (T a)) (.str (T b)) H Q:=rT_add hz q
theorem rTS_add {a:List Nat} {y:Str} (hz:a.length+(Lt y).length≤16777216) (q:Q (.str (T (a++Lt y))) H):rAddS (.str (T a)) (.str y) H Q:=rT_add hz q
theorem rTT_len {a:List Nat} (hz:a.length≤16777216) (q:Q (.int a.length) H):rLenT [.str (T a)] H Q:=rT_len hz q
theorem rTT_ix {a:List Nat} {i:Int} (hz:a.length≤16777216) (h0:0≤i) (h1:i < a.length) (q:Q (.str (T [a.getD i.toNat 0])) H):rIxS (.str (T a)) (.int i) H Q:=rT_ix hz h0 h1 q
theorem rTT_ixL {a:List Nat} (hz:a.length≤16777216) (h1:0 < a.length) (q:Q (.str (T [a.getD (a.length - 1) 0])) H):rIxS (.str (T a)) (.int (-1)) H Q:=rT_ixL hz h1 q
theorem rTT_sl0 {a:List Nat} {j:Int} (hz:a.length≤16777216) (h:0≤j) (q:Q (.str (T (a.take j.toNat))) H):rSlS (.str (T a)) none (some j) H Q:=rT_sl0 hz h q
theorem rTT_sli {a:List Nat} {i:Int} (hz:a.length≤16777216) (h:0≤i) (q:Q (.str (T (a.drop i.toNat))) H):rSlS (.str (T a)) (some i) none H Q:=rT_sli hz h q
theorem rTT_slij {a:List Nat} {i j:Int} (hz:a.length≤16777216) (h:0≤i) (h':0≤j) (q:Q (.str (T ((a.take j.toNat).drop i.toNat))) H):rSlS (.str (T a)) (some i) (some j) H Q:=rT_slij hz h h' q
theorem rTT_eq {a b:List Nat} (q:Q (.bl (decide (a=b))) H):rEq (.str (T a)) (.str (T b)) H Q:=r_eqT2 (by
 have e:decide (T a=T b)=decide (a=b):=decide_eq_decide.mpr T_eq
 rw [e];exact q)
theorem rTT_ne {a b:List Nat} (q:Q (.bl (!decide (a=b))) H):rNe (.str (T a)) (.str (T b)) H Q:=r_neT2 (by
 have e:decide (T a=T b)=decide (a=b):=decide_eq_decide.mpr T_eq
 rw [e];exact q)
theorem r_ixAll {p:Addr} {xs:List V} {i:Int} (h:SqL K H p xs) (h0:0≤i) (h1:i < xs.length) (q : ∀ x,xs[i.toNat]? = some x→Q x H):rIxL K (.ref p) (.int i) H Q:=by
 have h2:i.toNat < xs.length:=by omega
 have e:atI xs ((i.toNat:Nat):Int)=some xs[i.toNat]:=atI_nat (List.getElem?_eq_getElem h2)
 rw [show ((i.toNat:Nat):Int)=i by omega] at e
 exact r_ixL h e (q _ (List.getElem?_eq_getElem h2))
def rFindT:V→List V→Hp→VK→Prop:=fun x xs H Q=>∃ z y:Str,x = .str z∧xs=[.str y]∧Q (.int (Txt.find z y)) H
theorem mt_findT:MtR X "str.find" rFindT:=by
 intro pins s σ H x xs v us Q I rx rv h
 obtain ⟨z,y,rfl,rfl,q⟩:=h
 obtain ⟨t,rfl⟩:=rx
 obtain ⟨u,rfl,ru⟩:=rv.one
 obtain ⟨t',rfl⟩:=ru
 exact SC.find ⟨.int _,H,I.tok _,⟨_,rfl⟩,q⟩
theorem r_findT {z y:Str} (q:Q (.int (Txt.find z y)) H):rFindT (.str z) [.str y] H Q:=⟨z,y,rfl,rfl,q⟩
theorem r_tyS {z:Str} {R:Prop} (q:R):tyV K "str" (.str z) H∧R:=⟨rfl,q⟩
end
def Its (x:Str):It:=⟨fun i _=>i < (Lt x).length,fun i H v H'=>H'=H ∧ ∃ c,(Lt x)[i]? = some c∧v = .str (T [c]),fun i _=>i=(Lt x).length⟩
theorem turn_str {P:Program} {w:World} {K:PySem.W.Frag} {tg:Expr} (x:Str) (t:Tok) (it:Addr) (ty:String) (hty:ty = "str_ascii_iterator" ∨ ty = "str_iterator"):Turn P w K tg (Its x) [it] it (fun i h=>h.IsStrIter it ty x t i) where
 mem:=by simp
 obj:=fun i h st b hb=>by
  have e:b=it:=by simpa using hb
  subst e
  obtain ⟨o,e,c,d⟩:=st
  exact ⟨o,e,fun v z=>by rw [d] at z;cases z⟩
 keep:=fun i h h' st k=>by
  obtain ⟨o,e,c,d⟩:=st
  exact ⟨o,k it (by simp) o e,c,d⟩
 item:=by
  intro X hP hw hK hc i pins s σ H E I hf st hg
  subst hP hw hK
  obtain ⟨f0,f1,f2,f3,f4,f5⟩:=hf it (by simp)
  have W:Walks X.prog X.w X.A it [it] [it] x.cps.size (SignAt x) (fun i h=>h.IsStrIter it ty x t i):=by
   rcases hty with rfl | rfl
   ·exact Walks.strAscii (I.ok.hd hc) it x t
   ·exact Walks.strWide (I.ok.hd hc) it x t
  refine W.item i s _ _ hg st fun v h' tk hv st' kk=>?_
  obtain ⟨c,u,hcu,rfl⟩:=hv
  have I1:Inv X pins σ H { s with heap:=h',toks:=tk }:=I.turned (fun b o hb e=>kk b o (by simpa using hb) e) f0 f1 f3 f4 f5
  obtain ⟨o,e,c1,d⟩:=id st'
  have hn:["enumerate", "zip", "dict_itemiterator", "dict_reverseitemiterator", "odict_iterator", "itertools.zip_longest", "itertools.pairwise"].contains ty=false:=by rcases hty with rfl | rfl <;> decide
  exact ⟨_,rfl,go_of (s:={ s with heap:=h',toks:=tk }) e c1 d hn ⟨.str (T [c]),H,I1,⟨u,rfl⟩,⟨rfl,c,by simpa [Lt] using hcu,rfl⟩,st',fun b hb=>(hf b hb).1⟩⟩
 done:=by
  intro X hP hw hK hc i pins s σ H E I hf st hg
  subst hP hw hK
  obtain ⟨f0,f1,f2,f3,f4,f5⟩:=hf it (by simp)
  have W:Walks X.prog X.w X.A it [it] [it] x.cps.size (SignAt x) (fun i h=>h.IsStrIter it ty x t i):=by
   rcases hty with rfl | rfl
   ·exact Walks.strAscii (I.ok.hd hc) it x t
   ·exact Walks.strWide (I.ok.hd hc) it x t
  have hi:i=x.cps.size:=hg
  subst hi
  exact W.done s _ _ st fun h' tk kk=>⟨rfl,I.turned (fun b o hb e=>kk b o (by simpa using hb) e) f0 f1 f3 f4 f5⟩
 self:=fun _ _ _ _ _ st h=>by
  rcases hty with rfl | rfl
  ·exact wpAny_pyIter_striter_ascii st h
  ·exact wpAny_pyIter_striter_wide st h
section
variable {X : Cx} {tg : Expr}
def iStr (tl:TE):TI:=fun σ H R=>tl σ H fun x H1=>∃ z:Str,x = .str z∧R (Its z) H1
theorem pi_strT {l:Expr} {tl:TE} (hl:PE X l tl):PI X tg l (iStr tl):=by
 intro pins s σ H R I h
 refine thn (hl pins s σ H _ I h) fun v s1 ⟨x,H1,I1,r1,q1⟩=>?_
 obtain ⟨z,e,q⟩:=q1
 subst e
 obtain ⟨t,rfl⟩:=r1
 have hty:strIterType z = "str_ascii_iterator" ∨ strIterType z = "str_iterator" := by unfold strIterType;split <;> simp
 refine wpAny_pyIter_strU ?_
 refine ⟨s1.heap.objs.size,[s1.heap.objs.size],_,_,H1,rfl,I1.kept (t':=s1.toks) fun b o e=>Heap.get?_push_of_some _ e,turn_str z t _ _ hty,⟨_,Heap.get?_push_size _ rfl,rfl,rfl⟩,fun b hb=>?_,q⟩
 have e:b=s1.heap.objs.size:=by simpa using hb
 subst e
 exact I1.fpOk (Nat.le_refl _) (I1.hok.fresh (Nat.le_refl _))
end
section
variable {σ : St} {H : Hp} {Q : VK} {D : Ends} {K : W.Frag}
def kForS (g:TG) (tb:TS) (D:Ends) (σ:St) (x:V) (H:Hp):Prop:=∃ z:Str,x = .str z ∧ ∃ W:Nat→Nat→St→Hp→Prop,(∃ m,W 0 m σ H) ∧ ∀ i m σ H,W i m σ H →
 ((Its z).stop i H∧D.nx σ H)∨((Its z).go i H ∧ ∃ N:St→Hp→Prop,(∀ σ' H',N σ' H' → ∃ m',m' < m∧W (i+1) m' σ' H') ∧ ∀ x H',(Its z).yld i H x H'→g x σ H' fun σ2 H2=>tb { D with nx:=N,ct:=N,bk:=D.nx } σ2 H2)
theorem r_forS {tl:TE} {g:TG} {tb:TS} (h:tl σ H (kForS g tb D σ)):tFor (iStr tl) g tb D σ H:=h
theorem r_kForS {g:TG} {tb:TS} {a:List Nat} (Pv:Nat→St→Hp→Prop) (h0:Pv 0 σ H)
  (hs : ∀ i c σ H,a[i]? = some c→Pv i σ H→g (.str (T [c])) σ H fun σ2 H2=>tb { D with nx:=Pv (i+1),ct:=Pv (i+1),bk:=D.nx } σ2 H2) (hd : ∀ σ H,Pv a.length σ H→D.nx σ H):kForS g tb D σ (.str (T a)) H:=by
 refine ⟨T a,rfl,fun i m σ H=>i+m=a.length∧Pv i σ H,⟨a.length,by omega,h0⟩,?_⟩
 rintro i m σ H ⟨hm,hp⟩
 rcases Nat.lt_or_ge i a.length with h | h
 ·refine .inr ⟨h,Pv (i+1),fun σ' H' hp'=>⟨m - 1,by omega,by omega,hp'⟩,?_⟩
  rintro x H' ⟨rfl,c,hc,rfl⟩
  exact hs i c σ H' hc hp
 ·have e:i=a.length:=by omega
  subst e
  exact .inl ⟨rfl,hd σ H hp⟩
end
def fv (c:Nat):Int:=if 48≤c∧c≤57 then (c:Int) - 48 else if 97≤c∧c≤102 then (c:Int) - 87 else -1
theorem find_all : ∀ c ∈ List.range 127,Txt.find "0123456789abcdef" (T [c])=fv c:=by decide +kernel
theorem find_fv {c:Nat} (h:c < 127):Txt.find "0123456789abcdef" (T [c])=fv c:=find_all c (List.mem_range.mpr h)
def fc (d:Nat):Nat:=(Lt "0123456789abcdef").getD d 0
theorem fc_all : ∀ d ∈ List.range 16,fc d < 127∧fv (fc d)=d∧(fc d=48→d=0):=by decide +kernel
theorem fc_ok {d:Nat} (h:d < 16):fc d < 127∧fv (fc d)=d∧(fc d=48→d=0):=fc_all d (List.mem_range.mpr h)
def val (b:Int) (l:List Nat):Int:=l.foldl (fun n c=>n*b+fv c) 0
theorem val_app (b:Int) (l:List Nat) (c:Nat):val b (l++[c])=val b l*b+fv c:=by unfold val;rw [List.foldl_append];rfl
theorem val_noughts (b : Int) (l : List Nat) : ∀ m : Nat, val b (List.replicate m 48 ++ l) = val b l
  | 0 => by simp
  | m + 1 => by
    have ih := val_noughts b l m
    unfold val at ih ⊢
    rw [List.replicate_succ, List.cons_append, List.foldl_cons]
    have : (0 : Int) * b + fv 48 = 0 := by rw [Int.zero_mul]; decide
    rw [this]; exact ih
def FigB (b:Int) (l:List Nat):Prop:=∀ c ∈ l,c < 127∧0≤fv c∧fv c < b
theorem FigB.mono {b b':Int} {l:List Nat} (h:FigB b l) (hb:b≤b'):FigB b' l:=fun c hc=>⟨(h c hc).1,(h c hc).2.1,by have:=(h c hc).2.2;omega⟩
theorem FigB.app {b:Int} {l m:List Nat} (h:FigB b l) (h':FigB b m):FigB b (l++m):=fun c hc=>(List.mem_append.mp hc).elim (h c) (h' c)
theorem FigB.noughts {b:Int} (hb:2≤b) (m:Nat):FigB b (List.replicate m 48):=fun c hc=>by
 rw [List.eq_of_mem_replicate hc];exact ⟨by decide,by decide,by show (0:Int) < b;omega⟩
theorem FigB.one {b d:Nat} (hb:b≤16) (h:d < b):FigB b [fc d]:=fun c hc=>by
 rw [List.mem_singleton.mp hc]
 have:=fc_ok (d:=d) (by omega)
 exact ⟨this.1,by omega,by omega⟩
def figs (b n:Nat):List Nat:=if h:n < b∨b < 2 then [fc n] else figs b (n / b)++[fc (n % b)]
termination_by n
decreasing_by exact Nat.div_lt_self (by omega) (by omega)
theorem figs_lt {b n:Nat} (h:n < b):figs b n=[fc n]:=by rw [figs];simp [h]
theorem figs_ge {b n:Nat} (h2:2≤b) (h:b≤n):figs b n=figs b (n / b)++[fc (n % b)]:=by rw [figs];simp [show ¬ n < b by omega,show ¬ b < 2 by omega]
theorem figs_spec {b : Nat} (h2 : 2 ≤ b) (h16 : b ≤ 16) : ∀ (m n : Nat), n ≤ m → FigB b (figs b n) ∧ val b (figs b n) = n ∧ figs b n ≠ [] ∧ ((figs b n).getD 0 0 = 48 → n = 0) := by
  intro m
  induction m with
  | zero =>
    intro n hn
    rw [figs_lt (by omega)]
    have e := fc_ok (d := n) (by omega)
    exact ⟨FigB.one h16 (by omega), by unfold val; simp [e.2.1], by simp, fun _ => by omega⟩
  | succ m ih =>
    intro n hn
    rcases Nat.lt_or_ge n b with h | h
    · rw [figs_lt h]
      have e := fc_ok (d := n) (by omega)
      exact ⟨FigB.one h16 (by omega), by unfold val; simp [e.2.1], by simp, fun q => e.2.2 (by simpa using q)⟩
    · have hd : n / b < n := Nat.div_lt_self (by omega) (by omega)
      obtain ⟨i1, i2, i3, i4⟩ := ih (n / b) (by omega)
      have hm := Nat.mod_lt n (show b > 0 by omega)
      rw [figs_ge h2 h]
      refine ⟨i1.app (FigB.one h16 hm), ?_, by simp, fun q => ?_⟩
      · rw [val_app, i2, (fc_ok (d := n % b) (by omega)).2.1]
        have := Nat.div_add_mod n b
        rw [Nat.mul_comm] at this
        omega
      · rw [getD_app1 (List.length_pos_iff.mpr i3)] at q
        have := i4 q
        have p : 0 < n / b := Nat.div_pos h (by omega)
        omega
theorem figs_len {b : Nat} (h2 : 2 ≤ b) : ∀ (k n : Nat), n < b ^ (k + 1) → (figs b n).length ≤ k + 1
  | 0, n, h => by rw [Nat.pow_one] at h; rw [figs_lt h]; simp
  | k + 1, n, h => by
    rcases Nat.lt_or_ge n b with h' | h'
    · rw [figs_lt h']; simp
    · rw [figs_ge h2 h', List.length_append]
      have := figs_len h2 k (n / b) (Nat.div_lt_of_lt_mul (by rw [Nat.pow_succ, Nat.mul_comm] at h; exact h))
      simp; omega
theorem figs_240 {b n:Nat} (h2:2≤b) (h:n < 1766847064778384329583297500742918515827483896875618958121606201292619776):(figs b n).length≤240:=by
 refine figs_len h2 239 n (Nat.lt_of_lt_of_le h ?_)
 have e:(1766847064778384329583297500742918515827483896875618958121606201292619776:Nat)=2 ^ 240:=by decide +kernel
 rw [e];exact Nat.pow_le_pow_left h2 240
theorem figs_turn {b m:Nat} (h2:2≤b) (l:List Nat):figs b m++l=if m / b=0 then fc (m % b)::l else figs b (m / b)++fc (m % b)::l:=by
 rcases Nat.lt_or_ge m b with h' | h'
 ·rw [if_pos (Nat.div_eq_of_lt h'),figs_lt h',Nat.mod_eq_of_lt h'];rfl
 ·have p:0 < m / b:=Nat.div_pos h' (by omega)
  rw [if_neg (by omega),figs_ge h2 h',List.append_assoc];rfl
theorem r_kLstF {H:Hp} {Q:VK} {xs:List V} (hz:xs.length≤sizeLine) (h : ∀ p,H p=none→Q (.ref p) (upd H p (.lst xs))):kLst Q xs H:=⟨hz,h⟩
theorem same_upd {H H':Hp} {l:Addr} {o:HO} (g:Same H H') (n:H l=none):Same H (upd H' l o):=fun b u q=>by rw [upd_ne (ne_of_none q n)];exact g b u q
theorem r_bm0 {K:W.Frag} {σ:St} {H:Hp} {Q:VK} {T:String} {r:V→List V→Hp→VK→Prop} {to:TE} (h:to σ H fun x H1=>tyV K T x H1∧r x [] H1 Q):tBM0 K T r to σ H Q:=h
theorem r_reverse {H:Hp} {Q:VK} {l:Addr} {xs:List V} (h:H l=some (.lst xs)) (q:Q .non (upd H l (.lst xs.reverse))):rReverse (.ref l) [] H Q:=⟨l,xs,rfl,rfl,h,q⟩
def jn (m:List Nat):List (List Nat)→List Nat
 | []=>[]
 | x::xs=>x++(xs.map (m ++ ·)).flatten
theorem glue_fold (m : Str) : ∀ (xs : List (List Nat)) (a : Array Nat), ((xs.map T).foldl (fun acc p => acc ++ m.cps ++ p.cps) a).toList = a.toList ++ (xs.map (Lt m ++ ·)).flatten
  | [], a => by simp
  | x :: xs, a => by
    rw [List.map_cons, List.foldl_cons, glue_fold m xs, List.map_cons, List.flatten_cons]
    simp [T]
theorem join_T (m : Str) (xs : List (List Nat)) : Txt.join m (xs.map T) = T (jn (Lt m) xs) := by
  refine Lt_inj ?_
  rw [Lt_T]
  unfold Txt.join Builtin.Str.glued
  cases xs with
  | nil => rfl
  | cons x xs =>
    show (List.foldl (fun acc p => acc ++ m.cps ++ p.cps) (T x).cps (xs.map T)).toList = _
    rw [glue_fold]; rfl
theorem jn_snoc (m:List Nat) {xs:List (List Nat)} (h:xs≠[]) (y:List Nat):jn m (xs++[y])=jn m xs++(m++y):=by
 cases xs with
 | nil=>exact absurd rfl h
 | cons x xs=>unfold jn;simp
theorem jn_nil (xs:List (List Nat)):jn [] xs=xs.flatten:=by
 cases xs with
 | nil=>rfl
 | cons x xs=>unfold jn;simp
theorem joinOk {m : Str} {xs : List (List Nat)} (h : xs.flatten.length + xs.length * (Lt m).length ≤ 16777216) : JoinOk m (xs.map T) = true := by
  have e : ∀ (xs : List (List Nat)) (n : Nat), (xs.map T).foldl (fun x1 x2 => x1 + x2.length + m.length) n = n + xs.flatten.length + xs.length * (Lt m).length := by
    intro xs
    induction xs with
    | nil => intro n; simp
    | cons x xs ih =>
      intro n
      rw [List.map_cons, List.foldl_cons, ih, List.flatten_cons, List.length_append, List.length_cons, Nat.add_mul]
      have e1 : (T x).length = x.length := rfl
      have e2 : m.length = (Lt m).length := rfl
      rw [e1, e2]; omega
  unfold JoinOk Builtin.Str.tooLong
  rw [List.foldl_toArray, e, decide_eq_false (by show ¬ 0 + xs.flatten.length + xs.length * (Lt m).length > 16777216; omega)]
  rfl
def rJoinT (K:W.Frag):V→List V→Hp→VK→Prop:=fun x vs H Q=>∃ (m:Str) (p:Addr) (xs:List (List Nat)),x = .str m∧vs=[.ref p]∧H p=some (.lst (xs.map fun l=>V.str (T l)))∧xs.flatten.length+xs.length*(Lt m).length≤16777216∧Q (.str (T (jn (Lt m) xs))) H
theorem vals_strs : ∀ {xs : List (List Nat)} {us : List Value}, Vals (xs.map fun l => V.str (T l)) us → ∃ ts : List (Str × Tok), us = strValues ts ∧ ts.map (fun x => x.1) = xs.map T
  | [], _, .nil => ⟨[], rfl, rfl⟩
  | x :: xs, _, .cons r t => by
    obtain ⟨ts, rfl, e⟩ := vals_strs t
    obtain ⟨u, rfl⟩ := r
    exact ⟨(T x, u) :: ts, rfl, by rw [List.map_cons, List.map_cons, e]⟩
theorem mt_joinT {X:Cx}:MtR X "str.join" (rJoinT X.K):=by
 intro pins s σ H x vs v us Q I rx rv h
 obtain ⟨m,p,xs,rfl,rfl,hH,hz,q⟩:=h
 obtain ⟨t,rfl⟩:=rx
 obtain ⟨u,rfl,ru⟩:=rv.one
 cases ru
 obtain ⟨its,r,pl,_⟩:=I.list (SqL.of hH)
 obtain ⟨ts,rfl,e⟩:=vals_strs r
 exact SC.join pl.isList e (joinOk hz) fun t' k=>⟨.str _,H,I.tok _,⟨t',rfl⟩,by rw [join_T];exact q⟩
theorem r_joinT {K:W.Frag} {H:Hp} {Q:VK} {m:Str} {p:Addr} {xs:List (List Nat)} (h:H p=some (.lst (xs.map fun l=>V.str (T l)))) (hz:xs.flatten.length+xs.length*(Lt m).length≤16777216) (q:Q (.str (T (jn (Lt m) xs))) H):rJoinT K (.str m) [.ref p] H Q:=⟨m,p,xs,rfl,rfl,h,hz,q⟩
def pcs (a:List Nat) (z g e:Nat):List (List Nat):=if h:e=0∨z=0 then [] else pcs a z g (e - z - g)++[(a.take e).drop (e - z)]
termination_by e
decreasing_by omega
theorem pcs_zero (a:List Nat) (z g:Nat):pcs a z g 0=[]:=by rw [pcs];simp
theorem pcs_pos {a:List Nat} {z g e:Nat} (hz:0 < z) (h:0 < e):pcs a z g e=pcs a z g (e - z - g)++[(a.take e).drop (e - z)]:=by
 rw [pcs];rw [dif_neg (by omega)]
theorem pcs_bd {a : List Nat} {z g : Nat} (hz : 0 < z) : ∀ (m e : Nat), e ≤ m → (pcs a z g e).flatten.length ≤ e ∧ (pcs a z g e).length ≤ e
  | 0, e, h => by rw [show e = 0 by omega, pcs_zero]; simp
  | m + 1, e, h => by
    rcases Nat.eq_zero_or_pos e with p | p
    · rw [p, pcs_zero]; simp
    · obtain ⟨i1, i2⟩ := pcs_bd (a := a) (g := g) hz m (e - z - g) (by omega)
      rw [pcs_pos hz p]
      simp only [List.flatten_append, List.length_append, List.flatten_cons, List.flatten_nil, List.append_nil, List.length_drop, List.length_take, List.length_cons, List.length_nil]
      omega
def RJ (z m:Nat) (b:List Nat):List Nat:=if h:b.length≤z∨z=0 then b else b.take z++m::RJ z m (b.drop z)
termination_by b.length
decreasing_by rw [List.length_drop];omega
theorem RJ_le {z m:Nat} {b:List Nat} (h:b.length≤z):RJ z m b=b:=by rw [RJ];simp [h]
theorem RJ_zero {m:Nat} {b:List Nat}:RJ 0 m b=b:=by rw [RJ];simp
theorem RJ_gt {z m:Nat} {b:List Nat} (hz:0 < z) (h:z < b.length):RJ z m b=b.take z++m::RJ z m (b.drop z):=by
 rw [RJ];rw [dif_neg (by omega)]
theorem RJ_len {z m : Nat} : ∀ (k : Nat) (b : List Nat), b.length ≤ k → b.length ≤ (RJ z m b).length ∧ (RJ z m b).length ≤ 2 * b.length
  | 0, b, h => by rw [RJ_le (by omega)]; omega
  | k + 1, b, h => by
    rcases Nat.eq_zero_or_pos z with p | p
    · subst p; rw [RJ_zero]; omega
    · rcases Nat.lt_or_ge z b.length with q | q
      · have ih := RJ_len (z := z) (m := m) k (b.drop z) (by rw [List.length_drop]; omega)
        rw [List.length_drop] at ih
        rw [RJ_gt p q, List.length_append, List.length_take, List.length_cons]
        omega
      · rw [RJ_le q]; omega
theorem RJ_snoc {z m x : Nat} (hz : 0 < z) : ∀ (k : Nat) (c : List Nat), c.length ≤ k → RJ z m (c ++ [x]) = RJ z m c ++ ((if 0 < c.length ∧ c.length % z = 0 then [m] else []) ++ [x])
  | 0, c, h => by
    have e : c = [] := List.eq_nil_of_length_eq_zero (by omega)
    subst e
    rw [RJ_le (by simp; omega), RJ_le (by simp)]; simp
  | k + 1, c, h => by
    rcases Nat.lt_trichotomy c.length z with p | p | p
    · rw [RJ_le (by simp; omega), RJ_le (by omega), if_neg (by
        intro q; rw [Nat.mod_eq_of_lt p] at q; omega)]; simp
    · rw [RJ_gt hz (by simp; omega), RJ_le (b := c) (by omega), if_pos ⟨by omega, by rw [p]; exact Nat.mod_self z⟩]
      rw [List.take_append_of_le_length (by omega), List.take_of_length_le (by omega), List.drop_append_of_le_length (by omega), List.drop_of_length_le (by omega), RJ_le (by simp; omega)]
      simp
    · rw [RJ_gt hz (by simp; omega), RJ_gt (b := c) hz p]
      rw [List.take_append_of_le_length (by omega), List.drop_append_of_le_length (by omega), RJ_snoc hz k (c.drop z) (by rw [List.length_drop]; omega), List.length_drop]
      have e : (c.length - z) % z = c.length % z := (Nat.mod_eq_sub_mod (by omega)).symm
      rw [e, List.append_assoc, List.cons_append]
      have e2 : (0 < c.length - z ∧ c.length % z = 0) = (0 < c.length ∧ c.length % z = 0) := propext ⟨fun q => ⟨by omega, q.2⟩, fun q => ⟨by omega, q.2⟩⟩
      simp only [e2]
theorem jn_pcs {a : List Nat} {z m : Nat} (hz : 0 < z) : ∀ (k e : Nat), e ≤ k → e ≤ a.length → (jn [m] (pcs a z 0 e)).reverse = RJ z m (a.take e).reverse
  | 0, e, h, _ => by rw [show e = 0 by omega, pcs_zero, RJ_le (by simp)]; simp [jn]
  | k + 1, e, h, ha => by
    rcases Nat.eq_zero_or_pos e with p | p
    · rw [p, pcs_zero, RJ_le (by simp)]; simp [jn]
    · rw [pcs_pos hz p, Nat.sub_zero]
      have le : (a.take e).length = e := by rw [List.length_take]; omega
      rcases Nat.lt_or_ge z e with q | q
      · have ih := jn_pcs (a := a) (m := m) hz k (e - z) (by omega) (by omega)
        have ne : pcs a z 0 (e - z) ≠ [] := by rw [pcs_pos hz (by omega)]; simp
        rw [jn_snoc _ ne, List.reverse_append, List.reverse_append, ih, RJ_gt (b := (a.take e).reverse) hz (by rw [List.length_reverse]; omega), List.take_reverse, List.drop_reverse, le]
        rw [List.take_take, Nat.min_eq_left (show e - z ≤ e by omega)]
        simp
      · rw [show e - z = 0 by omega, pcs_zero, RJ_le (by rw [List.length_reverse]; omega)]
        simp [jn]
def gr (z m:Nat) (a:List Nat):List Nat:=(RJ z m a.reverse).reverse
theorem gr_jn {a:List Nat} {z m:Nat} (hz:0 < z):jn [m] (pcs a z 0 a.length)=gr z m a:=by
 have:=jn_pcs (m:=m) hz a.length a.length (Nat.le_refl _) (Nat.le_refl _)
 rw [List.take_length] at this
 unfold gr
 rw [← this,List.reverse_reverse]
theorem gr_len {a:List Nat} {z m:Nat}:a.length≤(gr z m a).length∧(gr z m a).length≤2*a.length:=by
 have:=RJ_len (z:=z) (m:=m) a.reverse.length a.reverse (Nat.le_refl _)
 unfold gr;rw [List.length_reverse] at this ⊢;exact this
def UJ (z:Nat) (c:List Nat):List Nat:=if h:c.length=0∨z=0 then [] else c.take z++UJ z (c.drop (z+1))
termination_by c.length
decreasing_by rw [List.length_drop];omega
theorem UJ_nil {z:Nat}:UJ z []=[]:=by rw [UJ];simp
theorem UJ_pos {z:Nat} {c:List Nat} (hz:0 < z) (h:0 < c.length):UJ z c=c.take z++UJ z (c.drop (z+1)):=by rw [UJ];rw [dif_neg (by omega)]
def ug (z:Nat) (a:List Nat):List Nat:=if z=0 then a else (UJ z a.reverse).reverse
theorem gr_zero {m:Nat} {a:List Nat}:gr 0 m a=a:=by unfold gr;rw [RJ_zero,List.reverse_reverse]
theorem gr_turn {z m k:Nat} {a:List Nat} (hk:k < a.length):gr z m (a.drop (a.length - (k+1)))=a.getD (a.length - 1 - k) 0::((if 0 < z∧0 < k∧k % z=0 then [m] else [])++gr z m (a.drop (a.length - k))):=by
 have e:a.drop (a.length - (k+1))=a.getD (a.length - 1 - k) 0::a.drop (a.length - k):=by
  rw [List.drop_eq_getElem_cons (by omega),List.getD_eq_getElem?_getD,List.getElem?_eq_getElem (by omega)]
  congr 2 <;> omega
 have lk:(a.drop (a.length - k)).length=k:=by rw [List.length_drop];omega
 rcases Nat.eq_zero_or_pos z with p | p
 ·subst p;rw [gr_zero,gr_zero,e,if_neg (by omega)];rfl
 ·rw [e]
  unfold gr
  rw [List.reverse_cons,RJ_snoc p _ _ (Nat.le_refl _),List.length_reverse,lk]
  by_cases q:0 < k∧k % z=0
  ·rw [if_pos q,if_pos ⟨p,q⟩];simp
  ·rw [if_neg q,if_neg (fun h=>q h.2)];simp
theorem r_ixTs {K:W.Frag} {H:Hp} {Q:VK} {p:Addr} {ts:List (List Nat)} {i:Int} (h:SqL K H p (ts.map fun l=>V.str (T l))) (h0:0≤i) (h1:i < ts.length) (q:Q (.str (T (ts.getD i.toNat []))) H):rIxL K (.ref p) (.int i) H Q:=by
 refine r_ixAll h h0 (by rw [List.length_map];exact h1) fun x hx=>?_
 have h2:i.toNat < ts.length:=by omega
 rw [List.getElem?_map,List.getElem?_eq_getElem h2] at hx
 cases hx
 rw [List.getD_eq_getElem?_getD,List.getElem?_eq_getElem h2] at q
 exact q
section
variable {X : Cx} {H : Hp} {Q : VK} {K : W.Frag}
inductive NT (H:Hp):V→Prop where
 | int (i:Int):NT H (.int i)
 | non:NT H .non
 | bl (b:Bool):NT H (.bl b)
 | lst {p:Addr} {xs:List V} (e:H p=some (.lst xs)):NT H (.ref p)
 | tup {p:Addr} {xs:List V} (e:H p=some (.tup xs)):NT H (.ref p)
 | dct {p:Addr} (e:H p=some (dctO p)):NT H (.ref p)
theorem NT.same {H H':Hp} {v:V} (h:NT H v) (g:Same H H'):NT H' v:=by
 cases h with
 | int i=>exact .int i
 | non=>exact .non
 | bl b=>exact .bl b
 | lst e=>exact .lst (g _ _ e)
 | tup e=>exact .tup (g _ _ e)
 | dct e=>exact .dct (g _ _ e)
def Asc (l:List Nat):Prop:=∀ c ∈ l,c < 127
theorem Asc.nil:Asc []:=fun _ h=>nomatch h
theorem Asc.app {l m:List Nat} (h:Asc l) (h':Asc m):Asc (l++m):=fun c hc=>(List.mem_append.mp hc).elim (h c) (h' c)
theorem Asc.one {c:Nat} (h:c < 127):Asc [c]:=fun d hd=>by rw [List.mem_singleton.mp hd];exact h
theorem Asc.take {l:List Nat} (h:Asc l) (n:Nat):Asc (l.take n):=fun c hc=>h c (List.mem_of_mem_take hc)
theorem Asc.drop {l:List Nat} (h:Asc l) (n:Nat):Asc (l.drop n):=fun c hc=>h c (List.mem_of_mem_drop hc)
theorem Asc.rep {l:List Nat} (h:Asc l) (n:Nat):Asc (List.replicate n l).flatten:=fun c hc=>by
 obtain ⟨m,hm,hc⟩:=List.mem_flatten.mp hc
 rw [List.eq_of_mem_replicate hm] at hc
 exact h c hc
theorem FigB.asc {b:Int} {l:List Nat} (h:FigB b l):Asc l:=fun c hc=>(h c hc).1
end
theorem pe_strT {X:Cx} {x:Str} {l:List Nat} {j:Nat} {pos:Pos} (e:x=T l):PE X (.Constant (.str x) j pos) (tC (.str (T l))):=by
 rw [← e];exact pe_str
theorem RJ_length {z m : Nat} (hz : 0 < z) : ∀ (k : Nat) (b : List Nat), b.length ≤ k → 1 ≤ b.length → (RJ z m b).length = b.length + (b.length - 1) / z
  | 0, b, h, h1 => by omega
  | k + 1, b, h, h1 => by
    rcases Nat.lt_or_ge z b.length with q | q
    · have ih := RJ_length (m := m) hz k (b.drop z) (by rw [List.length_drop]; omega) (by rw [List.length_drop]; omega)
      rw [List.length_drop] at ih
      rw [RJ_gt hz q, List.length_append, List.length_take, List.length_cons, ih]
      have e : (b.length - 1) / z = (b.length - z - 1) / z + 1 := by
        rw [Nat.div_eq_sub_div hz (by omega), show b.length - 1 - z = b.length - z - 1 by omega]
      omega
    · rw [RJ_le q, Nat.div_eq_of_lt (by omega)]; omega
theorem UJ_pos_len {z:Nat} {c:List Nat} (hz:0 < z) (h:0 < c.length):0 < (UJ z c).length:=by
 rw [UJ_pos hz h,List.length_append,List.length_take];omega
theorem RJ_UJ {z m : Nat} (hz : 0 < z) : ∀ (k : Nat) (c : List Nat), c.length ≤ k → c.length % (z + 1) ≠ 0 → (∀ j, j < c.length → j % (z + 1) = z → c.getD j 0 = m) → RJ z m (UJ z c) = c
  | 0, c, h, h0, _ => by rw [show c.length = 0 by omega] at h0; simp at h0
  | k + 1, c, h, h0, hm => by
    have p0 : 0 < c.length := by
      rcases Nat.eq_zero_or_pos c.length with p | p
      · rw [p] at h0; simp at h0
      · exact p
    rcases Nat.lt_trichotomy c.length (z + 1) with q | q | q
    · rw [UJ_pos hz p0, List.take_of_length_le (by omega), List.drop_of_length_le (by omega), UJ_nil, List.append_nil, RJ_le (by omega)]
    · rw [q, Nat.mod_self] at h0; exact absurd rfl h0
    · have l1 : (c.take z).length = z := by rw [List.length_take]; omega
      have l2 : (c.drop (z + 1)).length = c.length - (z + 1) := List.length_drop ..
      have ih := RJ_UJ (m := m) hz k (c.drop (z + 1)) (by omega) (by rw [l2, ← Nat.mod_eq_sub_mod (by omega)]; exact h0) (fun j hj he => by
        have z1 := hm (z + 1 + j) (by omega) (by rw [Nat.add_mod_left]; exact he)
        rw [List.getD_eq_getElem?_getD] at z1 ⊢
        rw [List.getElem?_drop]; exact z1)
      have up := UJ_pos_len (c := c.drop (z + 1)) hz (by omega)
      rw [UJ_pos hz p0, RJ_gt hz (by rw [List.length_append, l1]; omega), List.take_append_of_le_length (by omega), List.take_of_length_le (by omega), List.drop_append_of_le_length (by omega), List.drop_of_length_le (by omega), List.nil_append, ih]
      have cz := hm z (by omega) (Nat.mod_eq_of_lt (by omega))
      rw [List.getD_eq_getElem?_getD, List.getElem?_eq_getElem (by omega)] at cz
      have cz' : c[z] = m := cz
      rw [← cz', ← List.drop_eq_getElem_cons, List.take_append_drop]
def GG (z m:Nat) (t:List Nat):Prop:=1≤(ug z t).length∧(ug z t).length≤40∧gr z m (ug z t)=t
theorem GG.len {z m:Nat} {t:List Nat} (h:GG z m t):(ug z t).length+(if 0 < z then ((ug z t).length - 1) / z else 0)=t.length:=by
 have e:=congrArg List.length h.2.2
 rcases Nat.eq_zero_or_pos z with p | p
 ·subst p;rw [gr_zero] at e;simp;exact e
 ·unfold gr at e
  rw [List.length_reverse,RJ_length p _ _ (Nat.le_refl _) (by rw [List.length_reverse];exact h.1),List.length_reverse] at e
  rw [if_pos p];exact e
theorem getD_rev {l:List Nat} {j:Nat} (h:j < l.length):l.reverse.getD j 0=l.getD (l.length - 1 - j) 0:=by
 rw [List.getD_eq_getElem?_getD,List.getD_eq_getElem?_getD,List.getElem?_reverse h]
theorem many_inj {z a b:Nat} (h1:1≤a) (h2:1≤b) (h:a+(a - 1) / z=b+(b - 1) / z):a=b:=by
 rcases Nat.lt_trichotomy a b with p | p | p
 ·have:=Nat.div_le_div_right (c:=z) (show a - 1≤b - 1 by omega);omega
 ·exact p
 ·have:=Nat.div_le_div_right (c:=z) (show b - 1≤a - 1 by omega);omega
theorem GG.of {z m many:Nat} {t:List Nat} (h1:1≤many) (h2:many≤40) (hl:many+(if 0 < z then (many - 1) / z else 0)=t.length) (hm:0 < z → ∀ k,k < t.length→(t.length - 1 - k) % (z+1)=z→t.getD k 0=m):GG z m t:=by
 rcases Nat.eq_zero_or_pos z with p | p
 ·subst p
  have e:ug 0 t=t:=rfl
  unfold GG;rw [e,gr_zero];simp at hl;exact ⟨by omega,by omega,rfl⟩
 ·rw [if_pos p] at hl
  have hn:t.length % (z+1)≠0:=by
   have d:=Nat.div_add_mod (many - 1) z
   have r:=Nat.mod_lt (many - 1) p
   generalize (many - 1) / z=q at *
   generalize (many - 1) % z=r' at *
   have e:t.length=r'+1+(z+1)*q:=by rw [Nat.add_mul,Nat.one_mul];omega
   rw [e,Nat.add_mul_mod_self_left,Nat.mod_eq_of_lt (by omega)];omega
  have rj:=RJ_UJ (m:=m) p _ t.reverse (Nat.le_refl _) (by rw [List.length_reverse];exact hn) (fun j hj he=>by
   rw [List.length_reverse] at hj
   rw [getD_rev hj]
   exact hm p _ (by omega) (by rw [show t.length - 1 - (t.length - 1 - j)=j by omega];exact he))
  have e:ug z t=(UJ z t.reverse).reverse:=by unfold ug;rw [if_neg (by omega)]
  have tp:0 < t.length:=Nat.lt_of_lt_of_le (show 0 < many by omega) (by rw [← hl];exact Nat.le_add_right _ _)
  have up:=UJ_pos_len (c:=t.reverse) p (by rw [List.length_reverse];exact tp)
  have ln:=RJ_length (m:=m) p _ (UJ z t.reverse) (Nat.le_refl _) up
  rw [rj,List.length_reverse] at ln
  have em:=many_inj (z:=z) (a:=(UJ z t.reverse).length) (b:=many) up h1 (by omega)
  refine ⟨by rw [e,List.length_reverse];omega,by rw [e,List.length_reverse];omega,?_⟩
  rw [e];unfold gr;rw [List.reverse_reverse,rj,List.reverse_reverse]
def KD (w:World) (K:W.Frag) (d:Addr) (z:Str) (v:Addr):Prop:=∃ (es:Array DictEntry) (n:Nat),K.lookup d=some { cls:=.type "dict", data:=.dict es n }∧(∀ e,e ∈ es → ∃ k,Value.isStrOf k e.key=true∧e.hash=hashStr w k)∧findBy Value.isStrOf es z=some (.ref v)
def rIxD (w:World) (K:W.Frag):R2:=fun x y H Q=>∃ d z v,x = .ref d∧y = .str z∧KD w K d z v∧Q (.ref v) H
section
variable {X : Cx} {H : Hp} {Q : VK} {K : W.Frag} {w : World}
theorem ix_kd:IxR X (rIxD X.w X.K):=by
 intro value slice pins s σ H x y v u Q I rx ry h hs
 obtain ⟨d,z,p,rfl,rfl,⟨es,n,lk,ks,f⟩,q⟩:=h
 cases rx
 obtain ⟨t,rfl⟩:=ry
 have ho:=I.kIn d _ lk
 have fin : ∀ k,EP X pins σ Q (.ref p) { s with toks:=k }:=fun k=>⟨.ref p,H,I.tok _,rfl,q⟩
 exact subscriptTail_builtinR (x:=.ref p) ⟨_,ho,rfl⟩ slot_dict_getitem.lookup
  (wpAny_getItem_of (knd:=PySem.strKind X.prog X.w) (k:=z) (f:=fun k=>findBy Value.isStrOf es k) (Q:=fun r s'=>r = .ref p∧EP X pins σ Q r s') (by simp [PySem.strKind,Value.isStrOf]) ⟨_,es,n,ho,⟨rfl,rfl,rfl⟩,rfl,ks,fun k=>rfl⟩ f ⟨rfl,fin _⟩) hs
theorem r_ixD {d v:Addr} {z:Str} (h:KD w K d z v) (q:Q (.ref v) H):rIxD w K (.ref d) (.str z) H Q:=⟨d,z,v,rfl,rfl,h,q⟩
theorem r_ixQ {p:Addr} {xs:List V} {i:Int} {v:V} (h:SqT K H p xs) (e:atI xs i=some v) (q:Q v H):rIxT K (.ref p) (.int i) H Q:=⟨p,xs,i,v,rfl,rfl,h,e,q⟩
theorem SqT.same {H H':Hp} {p:Addr} {xs:List V} (h:SqT K H p xs) (e:Same H H'):SqT K H' p xs:=by
 rcases h with h | h
 ·rcases h with h | ⟨o,h⟩
  ·exact .inl (.inl (e _ _ h))
  ·exact .inl (.inr ⟨o,e _ _ h⟩)
 ·exact .inr h
def rNeT (K:W.Frag):R2:=fun x y H Q=>∃ p q xs ys,x = .ref p∧y = .ref q∧SqT K H p xs∧SqT K H q ys∧xs.all flatV=true∧ys.all flatV=true∧Q (.bl (!eqVs xs ys)) H
theorem op_neT (hu:X.A.units < cLine):OpR X (compareOp .NotEq) (rNeT X.K):=by
 intro pins s σ H x y v u Q I rx ry h
 obtain ⟨p,q,xs,ys,rfl,rfl,hx,hy,fx,fy,k⟩:=h
 cases rx;cases ry
 obtain ⟨its,r,pl,hz⟩:=I.tuple hx
 obtain ⟨its2,r2,pl2,hz2⟩:=I.tuple hy
 have e1:its.toArray.size=xs.length:=by simp [r.length]
 have e2:its2.toArray.size=ys.length:=by simp [r2.length]
 refine SeqAt.RcNeAt.tuples (e:=fun j=>eqV (xs.getD j .non) (ys.getD j .non)) pl pl2 hu (fun j h1 h2=>?_) _ _ _ _ ⟨.bl _,H,I,rfl,?_⟩
 ·exact eqAt_V (by simpa using Vals.getD j (by simpa using h1) r) (by simpa using Vals.getD j (by simpa using h2) r2) (flat_getD j fx) (flat_getD j fy)
 ·rw [e1,e2];exact k
theorem r_neQ {p q:Addr} {xs ys:List V} (h1:SqT K H p xs) (h2:SqT K H q ys) (f1:xs.all flatV=true) (f2:ys.all flatV=true) (k:Q (.bl (!eqVs xs ys)) H):rNeT K (.ref p) (.ref q) H Q:=⟨p,q,xs,ys,rfl,rfl,h1,h2,f1,f2,k⟩
theorem r_eqQ {p q:Addr} {xs ys:List V} (h1:SqT K H p xs) (h2:SqT K H q ys) (f1:xs.all flatV=true) (f2:ys.all flatV=true) (k:Q (.bl (eqVs xs ys)) H):rEqT K (.ref p) (.ref q) H Q:=⟨p,q,xs,ys,rfl,rfl,h1,h2,f1,f2,k⟩
theorem SqT.mod {p:Addr} {xs:List V} {its:List Value} {n:Nat} (lk:K.lookup p=some { cls:=.type "tuple", data:=.seq its.toArray n }) (hz:its.length≤1000) (r:Vals xs its):SqT K H p xs:=.inr ⟨_,its.toArray,n,lk,rfl,rfl,small (by simpa using hz),by simpa using r⟩
end
def stL (x:Str) (b:Bool):List Nat:=if x = "minus" then (if b then [45] else []) else if x = "plus" then (if b then [45] else [43]) else if x = "blank" then (if b then [45] else [32]) else if x = "brackets" then (if b then [40] else []) else []
def stT (x:Str) (b:Bool):List Nat:=if x = "minus" then [] else if x = "plus" then [] else if x = "blank" then [] else if x = "brackets" then (if b then [41] else []) else (if b then [45] else [])
def Style (x:Str):Prop:=x = "minus" ∨ x = "plus" ∨ x = "blank" ∨ x = "brackets" ∨ x = "behind"
theorem st_minus (b:Bool):stL "minus" b=(if b then [45] else [])∧stT "minus" b=[]:=by unfold stL stT;cases b <;> decide +kernel
theorem st_plus (b:Bool):stL "plus" b=(if b then [45] else [43])∧stT "plus" b=[]:=by unfold stL stT;cases b <;> decide +kernel
theorem st_blank (b:Bool):stL "blank" b=(if b then [45] else [32])∧stT "blank" b=[]:=by unfold stL stT;cases b <;> decide +kernel
theorem st_brackets (b:Bool):stL "brackets" b=(if b then [40] else [])∧stT "brackets" b=(if b then [41] else []):=by unfold stL stT;cases b <;> decide +kernel
theorem st_behind (b:Bool):stL "behind" b=[]∧stT "behind" b=(if b then [45] else []):=by unfold stL stT;cases b <;> decide +kernel
theorem st_len {x:Str} (h:Style x) (b:Bool):(stL x b).length≤1∧(stT x b).length≤1:=by
 rcases h with rfl | rfl | rfl | rfl | rfl
 ·rw [(st_minus b).1,(st_minus b).2];cases b <;> decide
 ·rw [(st_plus b).1,(st_plus b).2];cases b <;> decide
 ·rw [(st_blank b).1,(st_blank b).2];cases b <;> decide
 ·rw [(st_brackets b).1,(st_brackets b).2];cases b <;> decide
 ·rw [(st_behind b).1,(st_behind b).2];cases b <;> decide
def Sty (w:World) (K:W.Frag) (d:Addr):Prop:=∀ (x:Str),Style x → ∃ p a b:Addr,KD w K d x p ∧ ∀ H:Hp,SqT K H p [.ref a,.ref b]∧SqT K H a [.str (T (stL x false)),.str (T (stT x false))]∧SqT K H b [.str (T (stL x true)),.str (T (stT x true))]
theorem sty_mk {w:World} {K:W.Frag} {d:Addr} {n0:Nat} {t0:Tok} {p0 a0 b0:Addr} {n01 n02 n03:Nat} {u01 u02 u03 u04:Tok} {t1:Tok} {p1 a1 b1:Addr} {n11 n12 n13:Nat} {u11 u12 u13 u14:Tok} {t2:Tok} {p2 a2 b2:Addr} {n21 n22 n23:Nat} {u21 u22 u23 u24:Tok} {t3:Tok} {p3 a3 b3:Addr} {n31 n32 n33:Nat} {u31 u32 u33 u34:Tok} {t4:Tok} {p4 a4 b4:Addr} {n41 n42 n43:Nat} {u41 u42 u43 u44:Tok}
  (hd:K.lookup d=some { cls:=.type "dict", data:=.dict #[⟨PyData.keyHash w.params "minus", .str "minus" t0,.ref p0⟩,⟨PyData.keyHash w.params "plus", .str "plus" t1,.ref p1⟩,⟨PyData.keyHash w.params "blank", .str "blank" t2,.ref p2⟩,⟨PyData.keyHash w.params "brackets", .str "brackets" t3,.ref p3⟩,⟨PyData.keyHash w.params "behind", .str "behind" t4,.ref p4⟩] n0 })
  (hp0:K.lookup p0=some { cls:=.type "tuple", data:=.seq #[.ref a0,.ref b0] n01 })
  (ha0:K.lookup a0=some { cls:=.type "tuple", data:=.seq #[.str "" u01,.str "" u02] n02 })
  (hb0:K.lookup b0=some { cls:=.type "tuple", data:=.seq #[.str "-" u03,.str "" u04] n03 })
  (hp1:K.lookup p1=some { cls:=.type "tuple", data:=.seq #[.ref a1,.ref b1] n11 })
  (ha1:K.lookup a1=some { cls:=.type "tuple", data:=.seq #[.str "+" u11,.str "" u12] n12 })
  (hb1:K.lookup b1=some { cls:=.type "tuple", data:=.seq #[.str "-" u13,.str "" u14] n13 })
  (hp2:K.lookup p2=some { cls:=.type "tuple", data:=.seq #[.ref a2,.ref b2] n21 })
  (ha2:K.lookup a2=some { cls:=.type "tuple", data:=.seq #[.str " " u21,.str "" u22] n22 })
  (hb2:K.lookup b2=some { cls:=.type "tuple", data:=.seq #[.str "-" u23,.str "" u24] n23 })
  (hp3:K.lookup p3=some { cls:=.type "tuple", data:=.seq #[.ref a3,.ref b3] n31 })
  (ha3:K.lookup a3=some { cls:=.type "tuple", data:=.seq #[.str "" u31,.str "" u32] n32 })
  (hb3:K.lookup b3=some { cls:=.type "tuple", data:=.seq #[.str "(" u33,.str ")" u34] n33 })
  (hp4:K.lookup p4=some { cls:=.type "tuple", data:=.seq #[.ref a4,.ref b4] n41 })
  (ha4:K.lookup a4=some { cls:=.type "tuple", data:=.seq #[.str "" u41,.str "" u42] n42 })
  (hb4:K.lookup b4=some { cls:=.type "tuple", data:=.seq #[.str "" u43,.str "-" u44] n43 }):Sty w K d:=by
 have ks : ∀ e,e ∈ (#[⟨PyData.keyHash w.params "minus", .str "minus" t0,.ref p0⟩,⟨PyData.keyHash w.params "plus", .str "plus" t1,.ref p1⟩,⟨PyData.keyHash w.params "blank", .str "blank" t2,.ref p2⟩,⟨PyData.keyHash w.params "brackets", .str "brackets" t3,.ref p3⟩,⟨PyData.keyHash w.params "behind", .str "behind" t4,.ref p4⟩]:Array DictEntry) → ∃ k,Value.isStrOf k e.key=true∧e.hash=hashStr w k:=by
  intro e he
  simp only [List.mem_toArray,List.mem_cons,List.not_mem_nil,or_false] at he
  rcases he with rfl | rfl | rfl | rfl | rfl
  ·exact ⟨"minus", by simp [Value.isStrOf],rfl⟩
  ·exact ⟨"plus", by simp [Value.isStrOf],rfl⟩
  ·exact ⟨"blank", by simp [Value.isStrOf],rfl⟩
  ·exact ⟨"brackets", by simp [Value.isStrOf],rfl⟩
  ·exact ⟨"behind", by simp [Value.isStrOf],rfl⟩
 intro x hx
 rcases hx with rfl | rfl | rfl | rfl | rfl
 ·refine ⟨p0,a0,b0,⟨_,_,hd,ks,?_⟩,fun H=>⟨.mod hp0 (by simp) (.cons rfl (.cons rfl .nil)),.mod ha0 (by simp) (.cons ⟨u01,?_⟩ (.cons ⟨u02,?_⟩ .nil)),.mod hb0 (by simp) (.cons ⟨u03,?_⟩ (.cons ⟨u04,?_⟩ .nil))⟩⟩
  ·unfold findBy
   simp only [List.find?_toArray,List.find?_cons]
   rfl
  ·exact congrArg (fun z=>Value.str z _) (by rw [(st_minus _).1];decide +kernel)
  ·exact congrArg (fun z=>Value.str z _) (by rw [(st_minus _).2];decide +kernel)
  ·exact congrArg (fun z=>Value.str z _) (by rw [(st_minus _).1];decide +kernel)
  ·exact congrArg (fun z=>Value.str z _) (by rw [(st_minus _).2];decide +kernel)
 ·refine ⟨p1,a1,b1,⟨_,_,hd,ks,?_⟩,fun H=>⟨.mod hp1 (by simp) (.cons rfl (.cons rfl .nil)),.mod ha1 (by simp) (.cons ⟨u11,?_⟩ (.cons ⟨u12,?_⟩ .nil)),.mod hb1 (by simp) (.cons ⟨u13,?_⟩ (.cons ⟨u14,?_⟩ .nil))⟩⟩
  ·unfold findBy
   simp only [List.find?_toArray,List.find?_cons]
   rfl
  ·exact congrArg (fun z=>Value.str z _) (by rw [(st_plus _).1];decide +kernel)
  ·exact congrArg (fun z=>Value.str z _) (by rw [(st_plus _).2];decide +kernel)
  ·exact congrArg (fun z=>Value.str z _) (by rw [(st_plus _).1];decide +kernel)
  ·exact congrArg (fun z=>Value.str z _) (by rw [(st_plus _).2];decide +kernel)
 ·refine ⟨p2,a2,b2,⟨_,_,hd,ks,?_⟩,fun H=>⟨.mod hp2 (by simp) (.cons rfl (.cons rfl .nil)),.mod ha2 (by simp) (.cons ⟨u21,?_⟩ (.cons ⟨u22,?_⟩ .nil)),.mod hb2 (by simp) (.cons ⟨u23,?_⟩ (.cons ⟨u24,?_⟩ .nil))⟩⟩
  ·unfold findBy
   simp only [List.find?_toArray,List.find?_cons]
   rfl
  ·exact congrArg (fun z=>Value.str z _) (by rw [(st_blank _).1];decide +kernel)
  ·exact congrArg (fun z=>Value.str z _) (by rw [(st_blank _).2];decide +kernel)
  ·exact congrArg (fun z=>Value.str z _) (by rw [(st_blank _).1];decide +kernel)
  ·exact congrArg (fun z=>Value.str z _) (by rw [(st_blank _).2];decide +kernel)
 ·refine ⟨p3,a3,b3,⟨_,_,hd,ks,?_⟩,fun H=>⟨.mod hp3 (by simp) (.cons rfl (.cons rfl .nil)),.mod ha3 (by simp) (.cons ⟨u31,?_⟩ (.cons ⟨u32,?_⟩ .nil)),.mod hb3 (by simp) (.cons ⟨u33,?_⟩ (.cons ⟨u34,?_⟩ .nil))⟩⟩
  ·unfold findBy
   simp only [List.find?_toArray,List.find?_cons]
   rfl
  ·exact congrArg (fun z=>Value.str z _) (by rw [(st_brackets _).1];decide +kernel)
  ·exact congrArg (fun z=>Value.str z _) (by rw [(st_brackets _).2];decide +kernel)
  ·exact congrArg (fun z=>Value.str z _) (by rw [(st_brackets _).1];decide +kernel)
  ·exact congrArg (fun z=>Value.str z _) (by rw [(st_brackets _).2];decide +kernel)
 ·refine ⟨p4,a4,b4,⟨_,_,hd,ks,?_⟩,fun H=>⟨.mod hp4 (by simp) (.cons rfl (.cons rfl .nil)),.mod ha4 (by simp) (.cons ⟨u41,?_⟩ (.cons ⟨u42,?_⟩ .nil)),.mod hb4 (by simp) (.cons ⟨u43,?_⟩ (.cons ⟨u44,?_⟩ .nil))⟩⟩
  ·unfold findBy
   simp only [List.find?_toArray,List.find?_cons]
   rfl
  ·exact congrArg (fun z=>Value.str z _) (by rw [(st_behind _).1];decide +kernel)
  ·exact congrArg (fun z=>Value.str z _) (by rw [(st_behind _).2];decide +kernel)
  ·exact congrArg (fun z=>Value.str z _) (by rw [(st_behind _).1];decide +kernel)
  ·exact congrArg (fun z=>Value.str z _) (by rw [(st_behind _).2];decide +kernel)
section
variable {X : Cx} {σ : St} {H : Hp} {Q : VK} {D : Ends} {K : W.Frag}
def kForT (K:PySem.W.Frag) (g:TG) (tb:TS) (D:Ends) (σ:St) (x:V) (H:Hp):Prop:=∃ a,x = .ref a∧(∃ xs,SqT K H a xs) ∧ ∃ W:Nat→Nat→St→Hp→Prop,(∃ m,W 0 m σ H) ∧ ∀ i m σ H,W i m σ H →
 ((Itt K a).stop i H∧D.nx σ H)∨((Itt K a).go i H ∧ ∃ N:St→Hp→Prop,(∀ σ' H',N σ' H' → ∃ m',m' < m∧W (i+1) m' σ' H') ∧ ∀ x H',(Itt K a).yld i H x H'→g x σ H' fun σ2 H2=>tb { D with nx:=N,ct:=N,bk:=D.nx } σ2 H2)
theorem r_forT {tl:TE} {g:TG} {tb:TS} (h:tl σ H (kForT K g tb D σ)):tFor (iTup K tl) g tb D σ H:=h
theorem r_kForT {g:TG} {tb:TS} {a:Addr} {xs:List V} (hx:SqT K H a xs) (Pv:Nat→St→Hp→Prop) (h0:Pv 0 σ H) (hl : ∀ i σ H,i≤xs.length→Pv i σ H→SqT K H a xs)
  (hs : ∀ i x σ H,xs[i]? = some x→Pv i σ H→g x σ H fun σ2 H2=>tb { D with nx:=Pv (i+1),ct:=Pv (i+1),bk:=D.nx } σ2 H2) (hd : ∀ σ H,Pv xs.length σ H→D.nx σ H):kForT K g tb D σ (.ref a) H:=⟨a,rfl,⟨xs,hx⟩,for_tup Pv h0 hl hs hd⟩
end
def bod (x:Str) (b:Bool) (t:List Nat):List Nat:=(t.take (t.length - (stT x b).length)).drop (stL x b).length
def Fg (l:List Nat):Prop:=l≠[]∧0≤fv (l.getD 0 0)∧0≤fv (l.getD (l.length - 1) 0)
def Sgd (x:Str) (b:Bool) (t:List Nat):Prop:=Fg (bod x b t)∧stL x b++bod x b t++stT x b=t
theorem st_asc {x:Str} (h:Style x) (b:Bool):Asc (stL x b)∧Asc (stT x b):=by
 unfold Asc
 rcases h with rfl | rfl | rfl | rfl | rfl
 ·rw [(st_minus b).1,(st_minus b).2];cases b <;> decide
 ·rw [(st_plus b).1,(st_plus b).2];cases b <;> decide
 ·rw [(st_blank b).1,(st_blank b).2];cases b <;> decide
 ·rw [(st_brackets b).1,(st_brackets b).2];cases b <;> decide
 ·rw [(st_behind b).1,(st_behind b).2];cases b <;> decide
section
variable {X : Cx} {H : Hp} {Q : VK} {K : W.Frag} {σ : St}
theorem ps_tryC {body:List Stmt} {h₀:ExceptHandler} {hs:List ExceptHandler} {pos:Pos} {t:TS} (hxe : ∀ e s,¬ X.xe e s) (hb:PSs X body t):PS X (.Try body (h₀::hs) [] [] pos) t:=by
 intro pins s σ H D I h
 refine wpAny_Try_except (wpAny_mono (hb pins s σ H D I h) (fun f s1 q=>?_) fun e s1 z=>(hxe e s1 z).elim)
 cases f with
 | next=>exact wpAny_execs_nil q
 | ret u=>exact q
 | brk=>exact q
 | cont=>exact q
def rRjT:V→List V→Hp→VK→Prop:=fun x vs H Q=>∃ (a:List Nat) (i:Int) (c:Nat),x = .str (T a)∧vs=[.int i,.str (T [c])]∧0≤i∧i≤1000∧Q (.str (T (List.replicate (i.toNat - a.length) c++a))) H
theorem mt_rjustT:MtR X "str.rjust" rRjT:=by
 intro pins s σ H x vs v us Q I rx rv h
 obtain ⟨a,i,c,rfl,rfl,h0,h1,q⟩:=h
 obtain ⟨t,rfl⟩:=rx
 obtain ⟨u1,u2,rfl,r1,r2⟩:=vals2 rv
 obtain ⟨t1,rfl⟩:=r1
 obtain ⟨t2,rfl⟩:=r2
 have pk:PadOk i=true:=by
  unfold PadOk Builtin.Str.tooLong fitsSsize
  have : ¬ i.toNat > sizeLine:=by show ¬ i.toNat > 16777216;omega
  rw [decide_eq_false this]
  simp
  omega
 refine rjust_fill pk rfl fun t' k=>⟨.str _,H,I.tok _,⟨t',rfl⟩,?_⟩
 have e:Txt.rjustF (T a) i ((T [c]).cps.getD 0 0)=T (List.replicate (i.toNat - a.length) c++a):=Lt_inj (rjustF_list (T a) i c)
 rw [e];exact q
theorem r_rjT {a:List Nat} {i:Int} {c:Nat} (h0:0≤i) (h1:i≤1000) (q:Q (.str (T (List.replicate (i.toNat - a.length) c++a))) H):rRjT (.str (T a)) [.int i,.str (T [c])] H Q:=⟨a,i,c,rfl,rfl,h0,h1,q⟩
end
def dgs (b p n:Nat):List Nat:=List.replicate (p+1 - (figs b n).length) 48++figs b n
theorem dgs_spec {b p n:Nat} (h2:2≤b) (h16:b≤16) (hp:p≤6) (h:n < b ^ (40+p)):FigB b (dgs b p n)∧val b (dgs b p n)=n∧p+1≤(dgs b p n).length∧(dgs b p n).length≤40+p∧((dgs b p n).getD 0 0=48→(dgs b p n).length=p+1):=by
 have s:=figs_spec h2 h16 n n (Nat.le_refl _)
 have ln:=figs_len h2 (39+p) n (by rw [show 39+p+1=40+p by omega];exact h)
 have ps:=List.length_pos_iff.mpr s.2.2.1
 have ld:(dgs b p n).length=p+1 - (figs b n).length+(figs b n).length:=by unfold dgs;rw [List.length_append,List.length_replicate]
 refine ⟨(FigB.noughts (by omega) _).app s.1,?_,by omega,by omega,fun z=>?_⟩
 ·unfold dgs;rw [val_noughts];exact s.2.1
 ·rcases Nat.lt_or_ge (p+1) (figs b n).length with q | q
  ·have e:dgs b p n=figs b n:=by unfold dgs;rw [show p+1 - (figs b n).length=0 by omega];rfl
   rw [e] at z
   have:=s.2.2.2 z
   subst this
   rw [figs_lt (by omega)] at q
   simp at q
  ·omega
def whl (b p n:Nat):List Nat:=(dgs b p n).take ((dgs b p n).length - p)
def rst (b p n:Nat):List Nat:=(dgs b p n).drop ((dgs b p n).length - p)
def bdy (b p pt z m n:Nat):List Nat:=if p=0 then gr z m (whl b p n) else gr z m (whl b p n)++[pt]++rst b p n
theorem whl_rst (b p n:Nat):whl b p n++rst b p n=dgs b p n:=List.take_append_drop _ _
theorem whl_spec {b p n:Nat} (h2:2≤b) (h16:b≤16) (hp:p≤6) (h:n < b ^ (40+p)):1≤(whl b p n).length∧(whl b p n).length≤40∧(rst b p n).length=p∧((whl b p n).getD 0 0=48→(whl b p n).length=1):=by
 have s:=dgs_spec h2 h16 hp h
 have lw:(whl b p n).length=(dgs b p n).length - p:=by unfold whl;rw [List.length_take];omega
 refine ⟨by omega,by omega,by unfold rst;rw [List.length_drop];omega,fun z=>?_⟩
 have e:(whl b p n).getD 0 0=(dgs b p n).getD 0 0:=by
  rw [← whl_rst b p n,getD_app1 (by omega)]
 rw [e] at z
 have:=s.2.2.2.2 z
 omega
theorem gr_front {z m k:Nat} {a:List Nat} (hk:k < a.length):gr z m (a.drop k)=a.getD k 0::((if 0 < z∧0 < a.length - (k+1)∧(a.length - (k+1)) % z=0 then [m] else [])++gr z m (a.drop (k+1))):=by
 have t:=gr_turn (z:=z) (m:=m) (a:=a) (k:=a.length - (k+1)) (by omega)
 rw [show a.length - (a.length - (k+1)+1)=k by omega,show a.length - 1 - (a.length - (k+1))=k by omega,show a.length - (a.length - (k+1))=k+1 by omega] at t
 exact t
theorem RJ_mem {z m : Nat} : ∀ (k : Nat) (b : List Nat), b.length ≤ k → ∀ c ∈ RJ z m b, c ∈ b ∨ c = m
  | 0, b, h, c, hc => by rw [RJ_le (by omega)] at hc; exact .inl hc
  | k + 1, b, h, c, hc => by
    rcases Nat.eq_zero_or_pos z with p | p
    · subst p; rw [RJ_zero] at hc; exact .inl hc
    · rcases Nat.lt_or_ge z b.length with q | q
      · rw [RJ_gt p q] at hc
        rcases List.mem_append.mp hc with hc | hc
        · exact .inl (List.mem_of_mem_take hc)
        · rcases List.mem_cons.mp hc with hc | hc
          · exact .inr hc
          · rcases RJ_mem k (b.drop z) (by rw [List.length_drop]; omega) c hc with hc | hc
            · exact .inl (List.mem_of_mem_drop hc)
            · exact .inr hc
      · rw [RJ_le q] at hc; exact .inl hc
theorem gr_asc {z m:Nat} {a:List Nat} (h:Asc a) (hm:m < 127):Asc (gr z m a):=fun c hc=>by
 unfold gr at hc
 rcases RJ_mem _ a.reverse (Nat.le_refl _) c (List.mem_reverse.mp hc) with z | z
 ·exact h c (List.mem_reverse.mp z)
 ·rw [z];exact hm
theorem RJ_head {z m:Nat} {b:List Nat} (h:0 < b.length):(RJ z m b).getD 0 0=b.getD 0 0:=by
 rcases Nat.eq_zero_or_pos z with p | p
 ·subst p;rw [RJ_zero]
 ·rcases Nat.lt_or_ge z b.length with q | q
  ·rw [RJ_gt p q,getD_app1 (by rw [List.length_take];omega),List.getD_eq_getElem?_getD,List.getElem?_take,if_pos p,← List.getD_eq_getElem?_getD]
  ·rw [RJ_le q]
theorem gr_last {z m:Nat} {a:List Nat} (h:0 < a.length):(gr z m a).getD ((gr z m a).length - 1) 0=a.getD (a.length - 1) 0:=by
 have l:=gr_len (z:=z) (m:=m) (a:=a)
 have e1:(RJ z m a.reverse).getD 0 0=a.reverse.getD 0 0:=RJ_head (by rw [List.length_reverse];exact h)
 rw [getD_rev h] at e1
 have e2:(gr z m a).reverse=RJ z m a.reverse:=by unfold gr;rw [List.reverse_reverse]
 rw [← e2,getD_rev (by omega)] at e1
 rw [show (gr z m a).length - 1=(gr z m a).length - 1 - 0 by omega,e1];rfl
theorem gr_head {z m:Nat} {a:List Nat} (h:0 < a.length):(gr z m a).getD 0 0=a.getD 0 0:=by
 have f:=gr_front (z:=z) (m:=m) (a:=a) (k:=0) h
 rw [List.drop_zero] at f
 rw [f];rfl
theorem FigB.get {b:Int} {l:List Nat} (h:FigB b l) {i:Nat} (hi:i < l.length):0≤fv (l.getD i 0):=by
 rw [List.getD_eq_getElem?_getD,List.getElem?_eq_getElem hi];exact (h _ (List.getElem_mem hi)).2.1
theorem bdy_spec {b p pt z m n:Nat} (h2:2≤b) (h16:b≤16) (hp:p≤6) (h:n < b ^ (40+p)) (hpt:pt < 127) (hm:m < 127):Fg (bdy b p pt z m n)∧Asc (bdy b p pt z m n)∧(bdy b p pt z m n).length≤100:=by
 have ds:=dgs_spec h2 h16 hp h
 have ws:=whl_spec h2 h16 hp h
 have wr:=whl_rst b p n
 have fw:FigB b (whl b p n):=fun c hc=>ds.1 c (by rw [← wr];exact List.mem_append_left _ hc)
 have fr:FigB b (rst b p n):=fun c hc=>ds.1 c (by rw [← wr];exact List.mem_append_right _ hc)
 have gl:=gr_len (z:=z) (m:=m) (a:=whl b p n)
 have ag:=gr_asc (z:=z) (m:=m) fw.asc hm
 unfold bdy Fg
 rcases Nat.eq_zero_or_pos p with q | q
 ·rw [if_pos q]
  refine ⟨⟨List.length_pos_iff.mp (by omega),?_,?_⟩,ag,by omega⟩
  ·rw [gr_head (by omega)];exact fw.get (by omega)
  ·rw [gr_last (by omega)];exact fw.get (by omega)
 ·rw [if_neg (by omega)]
  refine ⟨⟨by simp,?_,?_⟩,(ag.app (Asc.one hpt)).app fr.asc,by simp only [List.length_append,List.length_singleton];omega⟩
  ·rw [List.append_assoc,getD_app1 (by omega),gr_head (by omega)];exact fw.get (by omega)
  ·rw [getD_app2 (by simp only [List.length_append,List.length_singleton];omega)]
   exact fr.get (by simp only [List.length_append,List.length_singleton];omega)
theorem bod_sg {x:Str} {b:Bool} {B:List Nat}:bod x b (stL x b++B++stT x b)=B:=by
 unfold bod
 rw [show (stL x b++B++stT x b).length - (stT x b).length=(stL x b++B).length by simp only [List.length_append];omega,List.take_append_of_le_length (Nat.le_refl _),List.take_length,List.drop_append,List.drop_of_length_le (Nat.le_refl _),Nat.sub_self];rfl
abbrev tsV (ts:List (List Nat)):List V:=ts.map fun l=>V.str (T l)
theorem flat_ts (ts:List (List Nat)):(tsV ts).all flatV=true:=by
 rw [List.all_eq_true];intro x hx
 obtain ⟨l,_,rfl⟩:=List.mem_map.mp hx
 rfl
theorem getD_ts {ts:List (List Nat)} {j:Nat} (h:j < ts.length):(tsV ts).getD j .non = .str (T (ts.getD j [])):=by
 simp [List.getD,h]
theorem eqV_T (a b:List Nat):eqV (.str (T a)) (.str (T b))=decide (a=b):=by
 show (T a == T b)=_
 rw [Bool.eq_iff_iff,beq_iff_eq,decide_eq_true_iff,T_eq]
theorem eq_ts {as bs:List (List Nat)} (h:as.length=bs.length):((List.range as.length).all fun j=>eqV ((tsV as).getD j .non) ((tsV bs).getD j .non))=decide (as=bs):=by
 rw [Bool.eq_iff_iff,List.all_eq_true,decide_eq_true_iff]
 constructor
 ·intro k
  refine List.ext_getElem h fun i h1 h2=>?_
  have:=k i (List.mem_range.mpr h1)
  rw [getD_ts h1,getD_ts h2,eqV_T,decide_eq_true_iff] at this
  simpa [List.getD,h1,h2] using this
 ·rintro rfl j hj
  have hj':=List.mem_range.mp hj
  rw [getD_ts hj',eqV_T,decide_eq_true_iff]
section
variable {X : Cx} {H : Hp} {Q : VK} {K : W.Frag}
def rEqLs (K:W.Frag):R2:=fun x y H Q=>∃ (p q:Addr) (as bs:List (List Nat)),x = .ref p∧y = .ref q∧SqL K H p (tsV as)∧SqL K H q (tsV bs)∧Q (.bl (decide (as=bs))) H
theorem op_eqLs (hu:X.A.units < cLine):OpR X (compareOp .Eq) (rEqLs X.K):=by
 intro pins s σ H x y v u Q I rx ry h
 obtain ⟨p,q,as,bs,rfl,rfl,hx,hy,k⟩:=h
 cases rx;cases ry
 obtain ⟨its,r,pl,hz⟩:=I.list hx
 obtain ⟨its2,r2,pl2,hz2⟩:=I.list hy
 have e1:its.toArray.size=as.length:=by have:=r.length;rw [List.length_map] at this;simp [← this]
 have e2:its2.toArray.size=bs.length:=by have:=r2.length;rw [List.length_map] at this;simp [← this]
 by_cases hl:as.length=bs.length
 ·refine SeqAt.eq_listAt (e:=fun j=>eqV ((tsV as).getD j .non) ((tsV bs).getD j .non)) pl.isList pl2.isList (by omega) hu (fun j h1 h2=>?_) ⟨.bl _,H,I,rfl,?_⟩
  ·exact eqAt_V (by simpa using Vals.getD j (by simpa using h1) r) (by simpa using Vals.getD j (by simpa using h2) r2) (flat_getD j (flat_ts as)) (flat_getD j (flat_ts bs))
  ·rw [e1,eq_ts hl];exact k
 ·refine SeqAt.eq_list_lengthsAt pl.isList pl2.isList (by rw [e1,e2];simpa using hl) hu ⟨.bl _,H,I,rfl,?_⟩
  rw [decide_eq_false (fun e=>hl (by rw [e]))] at k;exact k
theorem r_eqLs {p q:Addr} {as bs:List (List Nat)} (h1:SqL K H p (tsV as)) (h2:SqL K H q (tsV bs)) (k:Q (.bl (decide (as=bs))) H):rEqLs K (.ref p) (.ref q) H Q:=⟨p,q,as,bs,rfl,rfl,h1,h2,k⟩
theorem inV_ts (t:List Nat) (ts:List (List Nat)):inV (.str (T t)) (tsV ts)=decide (t ∈ ts):=by
 unfold inV
 rw [Bool.eq_iff_iff,List.any_eq_true,decide_eq_true_iff]
 constructor
 ·rintro ⟨y,hy,e⟩
  obtain ⟨l,hl,rfl⟩:=List.mem_map.mp hy
  rw [eqV_T,decide_eq_true_iff] at e
  exact e ▸ hl
 ·intro h
  exact ⟨_,List.mem_map.mpr ⟨t,h,rfl⟩,by rw [eqV_T,decide_eq_true_iff]⟩
theorem r_ninTs {p:Addr} {t:List Nat} {ts:List (List Nat)} (h:SqL K H p (tsV ts)) (q:Q (.bl (!decide (t ∈ ts))) H):rIn K true (.str (T t)) (.ref p) H Q:=⟨p,_,rfl,.inl h,rfl,flat_ts ts,by rw [inV_ts];exact q⟩
theorem r_ixTsL {p:Addr} {ts:List (List Nat)} (h:SqL K H p (tsV ts)) (h0:0 < ts.length) (q:Q (.str (T (ts.getD (ts.length - 1) []))) H):rIxL K (.ref p) (.int (-1)) H Q:=by
 refine r_ixL h (v:=.str (T (ts.getD (ts.length - 1) []))) ?_ q
 unfold atI ixN
 rw [List.length_map,if_neg (show ¬ (0:Int) ≤ -1 by decide),if_pos (show -(ts.length:Int) ≤ -1 by omega)]
 show (tsV ts)[((-1:Int)+ts.length).toNat]? = _
 rw [show ((-1:Int)+ts.length).toNat=ts.length - 1 by omega,List.getElem?_map,List.getD_eq_getElem?_getD,List.getElem?_eq_getElem (by omega)]
 rfl
def rListOf (K:W.Frag):List V→Hp→VK→Prop:=fun xs H Q=>∃ p ys,xs=[.ref p]∧(SqL K H p ys∨SqT K H p ys) ∧ ∀ l,H l=none→Q (.ref l) (upd H l (.lst ys))
theorem call_listOf:CallR X (.type "list") (rListOf X.K):=call_list_of
theorem r_listOf {p:Addr} {ys:List V} (h:SqL K H p ys) (q : ∀ l H',Same H H'→H l=none→H' l=some (.lst ys)→Q (.ref l) H'):rListOf K [.ref p] H Q:=⟨p,ys,rfl,.inl h,fun l hl=>q l _ (same_upd (Same.refl _) hl) hl upd_same⟩
theorem r_isi_ll {p:Addr} {xs:List V} (h:H p=some (.lst xs)) (q:Q (.bl true) H):rIsi K [.ref p,.ty "list"] H Q:=r_isi (.lst h) ⟨_,.inl rfl⟩ (kit_list_list K) q
def rStartT:V→List V→Hp→VK→Prop:=fun x xs H Q=>∃ a b:List Nat,x = .str (T a)∧xs=[.str (T b)]∧Q (.bl (decide (a.take b.length=b))) H
theorem start_T (a b:List Nat):Txt.startswith (T a) (T b)=decide (a.take b.length=b):=by
 have la:(T a).length=a.length:=rfl
 have lb:(T b).length=b.length:=rfl
 unfold Txt.startswith
 rw [StrLaws.subAt_eq,List.drop_zero,la,lb]
 show (decide (0+b.length≤a.length) && (a.take b.length == b))=_
 rw [Bool.eq_iff_iff,Bool.and_eq_true,decide_eq_true_iff,decide_eq_true_iff,beq_iff_eq]
 constructor
 ·exact fun h=>h.2
 ·intro h
  have:=congrArg List.length h
  rw [List.length_take] at this
  exact ⟨by omega,h⟩
theorem mt_startswithT:MtR X "str.startswith" rStartT:=by
 intro pins s σ H x xs v us Q I rx rv h
 obtain ⟨a,b,rfl,rfl,q⟩:=h
 obtain ⟨t,rfl⟩:=rx
 obtain ⟨u,rfl,ru⟩:=rv.one
 obtain ⟨t',rfl⟩:=ru
 exact SC.startswith ⟨.bl _,H,I,rfl,by rw [start_T];exact q⟩
theorem r_startT {a b:List Nat} (q:Q (.bl (decide (a.take b.length=b))) H):rStartT (.str (T a)) [.str (T b)] H Q:=⟨a,b,rfl,rfl,q⟩
end
def lk (n w:Int):Int:=if n < w then w - n else 0
def Side (x:Str):Prop:=x = "left" ∨ x = "right" ∨ x = "middle"
def pA (x:Str) (n w:Int):Int:=if x = "left" then 0 else if x = "right" then lk n w else lk n w / 2
def pB (x:Str) (n w:Int):Int:=lk n w - pA x n w
def pad (t:List Nat) (w:Int) (f:Nat) (x:Str):List Nat:=List.replicate (pA x t.length w).toNat f++t++List.replicate (pB x t.length w).toNat f
def sl (t:List Nat) (w:Int) (x:Str) (n:Nat):List Nat:=(t.take ((pA x n w)+n).toNat).drop (pA x n w).toNat
def nxt (t:List Nat) (w:Int) (f:Nat) (x:Str):List Nat:=if x = "left" ∨ (x = "middle" ∧ (w - t.length) % 2=1) then t++[f] else [f]++t
def Fst (t:List Nat) (w:Int) (f:Nat) (x:Str):Prop:=w < t.length∨((x = "left" → t.drop (t.length - 1)≠[f])∧(x = "right" → t.take 1≠[f])∧(x = "middle" → t.take 1≠[f]∧t.drop (t.length - 1)≠[f]))
structure Fnd (t:List Nat) (w:Int) (f:Nat) (x:Str) (W:List Nat) (F:List (List Nat)):Prop where
 has:t ∈ F
 pos:0 < F.length
 last:F.getD (F.length - 1) []=W
 each : ∀ k,k < F.length→pad (F.getD k []) w f x=W
 len : ∀ k,k < F.length→(F.getD k []).length≤W.length
 next : ∀ k,0 < k→k < F.length→F.getD k []=nxt (F.getD (k - 1) []) w f x
 first:Fst t w f x→F.getD 0 []=t
def fa (f:Nat):List Nat→Nat
 | []=>0
 | c::t=>if c=f then fa f t+1 else 0
structure FunD (K:W.Frag) (x qual:Str) (st:Stmt) (f:Addr) (fd:FuncData):Prop where
 ex : ∃ (oc:Value) (od:Option Addr) (dV kV doc pm:Value) (an:Option Addr) (cdv ct:Value) (osl:Array (Option Value)),
  fd=W.fnOf x qual (defArgs st) (defBody st) (defScope st) dV kV doc pm an cdv ct∧K.lookup f=some ⟨oc,od,.func fd,osl⟩∧W.codeIn K cdv qual=true
 kp:W.keepIn K (.ref f)=true
theorem Fun.d {K:W.Frag} {x qual:Str} {st:Stmt} {f:Addr} {fd:FuncData} (F:Fun K x qual st f fd):FunD K x qual st f fd:=by
 obtain ⟨oc,od,kV,doc,pm,an,cdv,ct,osl,h⟩:=F.ex
 exact ⟨⟨oc,od,.none,kV,doc,pm,an,cdv,ct,osl,h⟩,F.kp⟩
section
variable {P : Program} {w : World} {K : W.Frag} {mg : Str → Option Value} {base : Heap}
theorem FunD.ok {x qual:Str} {st:Stmt} {f:Addr} {fd:FuncData} {N ps:List Str} {k:Nat} {sp:Sp} (F:FunD K x qual st f fd) (S:FnScope N ps (defScope st)) (len : ∀ vs H Q E,sp vs H Q E→vs.length=ps.length)
  (hbody : ∀ (cdv:Value) (A:Around) (outer:List Env) (s:Shared) (H:Hp) (vs:List V) (Q:VK) (E:XK),Room k (A.deeper (envOfC qual (defScope st) s.heap.objs.size f cdv))→sp vs H Q E →
   ∃ t,PSs (cxOf CX0 P w K mg base N qual (defScope st) f cdv A outer s H E).nox (defBody st) t∧t { nx:=fun _ H'=>Q .non H',rt:=Q } (start N vs) H):FnOk P w K mg base CX0 (k+1) f fd ps sp:=by
 obtain ⟨oc,od,dV,kV,doc,pm,an,cdv,ct,osl,rfl,lk,hcd⟩:=F.ex
 refine fn_of lk hcd S len fun A outer s H vs Q E hr hsp=>?_
 obtain ⟨t,h,q⟩:=hbody cdv A outer s H vs Q E hr hsp
 exact ⟨t,h.nox,q⟩
theorem FunD.binds {x qual:Str} {st:Stmt} {f:Addr} {fd:FuncData} {ps:List Str} (F:FunD K x qual st f fd)
  (h : ∀ (dV kV doc pm:Value) (an:Option Addr) (cdv ct:Value) (us:List Value),us.length=ps.length→bindArgs (W.fnOf x qual (defArgs st) (defBody st) (defScope st) dV kV doc pm an cdv ct) ⟨us,[]⟩=pure (ps.zip us)):Binds K fd ps []:=by
 obtain ⟨oc,od,dV,kV,doc,pm,an,cdv,ct,osl,rfl,lk,hcd⟩:=F.ex
 exact .all (h dV kV doc pm an cdv ct)
theorem funD_mk {x qual:Str} {st:Stmt} {f:Addr} {oc:Value} {od an:Option Addr} {osl:Array (Option Value)} {dV kV doc pm cdv ct:Value} (l:K.lookup f=some ⟨oc,od,.func (W.fnOf x qual (defArgs st) (defBody st) (defScope st) dV kV doc pm an cdv ct),osl⟩)
  (c:W.codeIn K cdv qual=true) (k:W.keepIn K (.ref f)=true):FunD K x qual st f (W.fnOf x qual (defArgs st) (defBody st) (defScope st) dV kV doc pm an cdv ct):=⟨⟨oc,od,dV,kV,doc,pm,an,cdv,ct,osl,rfl,l,c⟩,k⟩
end
def HasM (P:Program) (w:World) (K:W.Frag) (mg:Str→Option Value) (base:Heap) (CX:CXT) (C:Addr) (m:Str) (k:Nat) (ps:List Str) (sp:Sp):Prop:=
 ∃ (f:Addr) (fd:FuncData),FnOk P w K mg base CX k f fd ps sp∧Meth K C m f∧Binds K fd ps []
def HasI (P:Program) (w:World) (K:W.Frag) (mg:Str→Option Value) (base:Heap) (CX:CXT) (C:Addr) (k:Nat) (ps:List Str) (sp:Sp):Prop:=
 ∃ (f:Addr) (fd:FuncData),FnOk P w K mg base CX k f fd ps sp∧Mk K C f∧Binds K fd ps []
structure CMeth (K:W.Frag) (C:Addr) (m:Str) (f:Addr):Prop where
 sp:W.specialIn K (.ref C) "__getattribute__" = some (some (.builtin "type.__getattribute__"))
 rd:W.readsIn K C (.type "type")=true
 fc:W.findCls K (.ref C) (.type "type") m=some (.val (.ref f))
 kp:W.keepIn K (.ref f)=true
def HasC (P:Program) (w:World) (K:W.Frag) (mg:Str→Option Value) (base:Heap) (CX:CXT) (C:Addr) (m:Str) (k:Nat) (ps:List Str) (sp:Sp):Prop:=
 ∃ (f:Addr) (fd:FuncData),FnOk P w K mg base CX k f fd ps sp∧CMeth K C m f∧Binds K fd ps []
section
variable {X : Cx} {CX : CXT} {k n : Nat} {C : Addr} {ps : List Str} {sp : Sp} {E : XK} {x m : Str} {p np pos apos : Pos} {e o : Expr} {es : List Expr} {ta : TE} {t : TA}
theorem pe_methH {pl:Sem Bool} (F:HasM X.prog X.w X.K X.mg X.base CX C m k ps sp) (c:Cls X.K C) (hx:Passes CX X E) (hr:Room n X.A) (he:PE X o ta) (ha:PA X (e::es) t) (hk:k≤n:=by decide)
  (hst:starEach (e::es) X.env=(false,eval e X.env)::starEach es X.env:=by rfl) (hpl:(backTo pos (starEach es X.env)).any (·.1)=false:=by rfl)
  (ht:eval (.Call (.Attribute o m apos) (e::es) [] pos) X.env=(do
   let ov ← eval o X.env
   standAt apos.atName
   let (f,first) ← holding [ov] (getMethod ov m pl)
   callWith pos f first (backTo pos (starEach (e::es) X.env)) (backToKw pos (keywordEach [] X.env))):=by rfl) :
  PE X (.Call (.Attribute o m apos) (e::es) [] pos) (tMeth C m sp [] E ta t):=by
 obtain ⟨f,fd,G,M,b⟩:=F
 exact pe_meth (pl:=pl) he c M (G.mono hk) hr b .nil hx ha hst hpl ht
theorem pe_methH0 {pl:Sem Bool} (F:HasM X.prog X.w X.K X.mg X.base CX C m k ps sp) (c:Cls X.K C) (hx:Passes CX X E) (hr:Room n X.A) (he:PE X o ta) (hk:k≤n:=by decide)
  (ht:eval (.Call (.Attribute o m apos) [] [] pos) X.env=(do
   let ov ← eval o X.env
   standAt apos.atName
   let (f,first) ← holding [ov] (getMethod ov m pl)
   callWith pos f first (backTo pos (starEach [] X.env)) (backToKw pos (keywordEach [] X.env))):=by rfl) :
  PE X (.Call (.Attribute o m apos) [] [] pos) (tMeth C m sp [] E ta tNil):=by
 obtain ⟨f,fd,G,M,b⟩:=F
 exact pe_meth0 (pl:=pl) he c M (G.mono hk) hr b .nil hx ht
theorem pe_makeH (F:HasI X.prog X.w X.K X.mg X.base CX C k ps sp) (hx:Passes CX X E) (hr:Room n X.A) (hg:Gl X x) (hm:X.mg x=some (.ref C)) (ha:PA X (e::es) t) (hk:k+1≤n:=by decide)
  (hdb:(x == ("__debug__" : Str))=false:=by decide) (he:starEach (e::es) X.env=(false,eval e X.env)::starEach es X.env:=by rfl) (hpl:(backTo pos (starEach es X.env)).any (·.1)=false:=by rfl) :
  PE X (.Call (.Name x p) (e::es) [] pos) (tMake C sp [] E t):=by
 obtain ⟨f,fd,G,M,b⟩:=F
 exact pe_make M G (hr.mono hk) hg hm b .nil hx ha hdb he hpl
theorem pe_cmethH {pl:Sem Bool} (F:HasC X.prog X.w X.K X.mg X.base CX C m k ps sp) (hx:Passes CX X E) (hr:Room n X.A) (hg:Gl X x) (hm:X.mg x=some (.ref C)) (ha:PA X (e::es) t) (hk:k≤n:=by decide)
  (hdb:(x == ("__debug__" : Str))=false:=by decide) (hst:starEach (e::es) X.env=(false,eval e X.env)::starEach es X.env:=by rfl) (hpl:(backTo pos (starEach es X.env)).any (·.1)=false:=by rfl)
  (ht:eval (.Call (.Attribute (.Name x np) m apos) (e::es) [] pos) X.env=(do
   let ov ← eval (.Name x np) X.env
   standAt apos.atName
   let (f,first) ← holding [ov] (getMethod ov m pl)
   callWith pos f first (backTo pos (starEach (e::es) X.env)) (backToKw pos (keywordEach [] X.env))):=by rfl) :
  PE X (.Call (.Attribute (.Name x np) m apos) (e::es) [] pos) (tCall sp [] E t):=by
 intro pins s σ H Q I h
 obtain ⟨f,fd,G,M,b⟩:=F
 refine W.methodCall_KW (pl:=pl) (ld_glob I hg hm ?_ hdb) ht
 refine W.method_cls I.kIn M.sp (W.cls_value I.kIn M.rd M.fc rfl ?_)
 have I1:=I.tok (s.toks+1)
 refine W.callWith_K (first:=[]) (h₀:=X.base) I.ok.mod.kin M.kp (thn (ha pos pins _ σ H _ I1 h) fun us s2 ⟨vs,H2,I2,r,q2⟩=>⟨I2.kIn,?_⟩) hst hpl
 exact run_fn (us:=us) (vs:=vs) (G.mono hk) hr b .nil hx I2 r q2
end
section
variable {σ : St} {H : Hp} {Q : VK} {D : Ends} {K : W.Frag} {C : Addr} {m f : Str} {sp : Sp} {E : XK} {ta tv : TE} {t : TA} {a : Addr}
def InsM (H:Hp) (a C:Addr) (m:Str):Prop:=∃ dx fs,H a=some (.ins C dx fs)∧fs.lookup m=none
def FldAt (K:W.Frag) (H:Hp) (a:Addr) (f:Str) (v:V):Prop:=∃ C dx fs,H a=some (.ins C dx fs)∧Cls K C∧NoAttr K C f∧fs.lookup f=some v
theorem InsM.same {H':Hp} (g:Same H H') (h:InsM H a C m):InsM H' a C m:=by obtain ⟨dx,fs,e,l⟩:=h;exact ⟨dx,fs,g _ _ e,l⟩
theorem FldAt.same {H':Hp} {v:V} (g:Same H H') (h:FldAt K H a f v):FldAt K H' a f v:=by obtain ⟨C,dx,fs,e,l⟩:=h;exact ⟨C,dx,fs,g _ _ e,l⟩
def kMeth (C:Addr) (m:Str) (sp:Sp) (dvs:List V) (E:XK) (t:TA) (σ:St) (Q:VK):VK:=fun x H1=>∃ a dx fs,x = .ref a∧H1 a=some (.ins C dx fs)∧fs.lookup m=none∧t σ H1 fun vs H2=>sp (x::(vs++dvs)) H2 Q E
theorem r_meth {dvs:List V} (h:ta σ H (kMeth C m sp dvs E t σ Q)):tMeth C m sp dvs E ta t σ H Q:=h
theorem r_kMeth {dvs:List V} (hi:InsM H a C m) (h:t σ H fun vs H2=>sp (.ref a::(vs++dvs)) H2 Q E):kMeth C m sp dvs E t σ Q (.ref a) H:=by
 obtain ⟨dx,fs,e,l⟩:=hi
 exact ⟨a,dx,fs,rfl,e,l,h⟩
def kFld (K:W.Frag) (f:Str) (Q:VK):VK:=fun x H1=>∃ a C dx fs v,x = .ref a∧H1 a=some (.ins C dx fs)∧Cls K C∧NoAttr K C f∧fs.lookup f=some v∧Q v H1
theorem r_fld (h:ta σ H (kFld K f Q)):tFld K ta f σ H Q:=h
theorem r_kFld {v:V} (hi:FldAt K H a f v) (q:Q v H):kFld K f Q (.ref a) H:=by
 obtain ⟨C,dx,fs,e,c,n,l⟩:=hi
 exact ⟨a,C,dx,fs,v,rfl,e,c,n,l,q⟩
def kSet (K:W.Frag) (f:Str) (y:V) (D:Ends) (σ:St):VK:=fun x H2=>∃ a C dx fs,x = .ref a∧H2 a=some (.ins C dx fs)∧Cls K C∧NoAttr K C f∧fs.length < 1000∧D.nx σ (upd H2 a (.ins C dx (putF f y fs)))
theorem r_sFld (h:tv σ H fun y H1=>ta σ H1 (kSet K f y D σ)):sFld K ta tv f D σ H:=h
theorem r_kSet {dx:Addr} {fs:List (Str × V)} {y:V} (e:H a=some (.ins C dx fs)) (c:Cls K C) (n:NoAttr K C f) (l:fs.length < 1000) (q:D.nx σ (upd H a (.ins C dx (putF f y fs)))):kSet K f y D σ (.ref a) H:=⟨a,C,dx,fs,rfl,e,c,n,l,q⟩
def kMake (C:Addr) (sp:Sp) (dvs:List V) (E:XK) (Q:VK):List V→Hp→Prop:=fun vs H1=>∀ x dx,H1 x=none→H1 dx=none→dx≠x →
 sp (.ref x::(vs++dvs)) (upd (upd H1 dx (.own x)) x (.ins C dx [])) (fun v H2=>v = .non∧Q (.ref x) H2) E
theorem r_make {dvs:List V} (h:t σ H (kMake C sp dvs E Q)):tMake C sp dvs E t σ H Q:=h
theorem putF_nil (f:Str) (v:V):putF f v []=[(f,v)]:=rfl
theorem putF_ne {f k:Str} {v x:V} {r:List (Str × V)} (h:k≠f):putF f v ((k,x)::r)=(k,x)::putF f v r:=by
 rw [show putF f v ((k,x)::r)=(if k=f then (k,v)::r else (k,x)::putF f v r) from rfl,if_neg h]
theorem lk_eq {k:Str} {x:V} {r:List (Str × V)}:((k,x)::r).lookup k=some x:=by simp [List.lookup]
theorem lk_ne {f k:Str} {x:V} {r:List (Str × V)} (h:f≠k):((k,x)::r).lookup f=r.lookup f:=by
 have:(f == k)=false:=by simpa using h
 simp [List.lookup,this]
end
def Wk (σc σ:St):Prop:=σc.length=σ.length ∧ ∀ (i:Nat) v,σc[i]? = some (some v)→σ[i]? = some (some v)
theorem Wk.nil:Wk [] []:=⟨rfl,fun i v h=>h⟩
theorem Wk.one {a b:St} {x:Option V} (h:Wk a b):Wk (x::a) (x::b):=⟨by rw [List.length_cons,List.length_cons,h.1],fun i v e=>by
 cases i with
 | zero=>exact e
 | succ i=>exact h.2 i v e⟩
theorem Wk.any {a b:St} {x:Option V} (h:Wk a b):Wk (none::a) (x::b):=⟨by rw [List.length_cons,List.length_cons,h.1],fun i v e=>by
 cases i with
 | zero=>exact absurd (Option.some.inj e) (by simp)
 | succ i=>exact h.2 i v e⟩
section
variable {X : Cx} {tg : Expr}
def picks (z:Str) (lo hi:Option Int) (st:Int):List Nat:=(Builtin.Str.strSliceIndices lo hi st z.length).filterMap ((Lt z)[·]?)
def rSl3:V→Option Int→Option Int→Int→Hp→VK→Prop:=fun x lo hi st H Q=>∃ z:Str,x = .str z∧st≠0∧z.length≤sizeLine∧(picks z lo hi st).length≤sizeLine ∧ ∀ y,(y=T (picks z lo hi st)∨(st=1∧y=z))→Q (.str y) H
def tSl3 (r:V→Option Int→Option Int→Int→Hp→VK→Prop) (te:TE) (tl th:TO) (ts:TE):TE:=fun σ H Q=>te σ H fun x H1=>tl σ H1 fun l H2=>th σ H2 fun u H3=>ts σ H3 fun s H4=>∃ i,s = .int i∧r x l u i H4 Q
theorem part_of {v:Value} {o:Option Int} (p:IsPart v o) : ∃ l:Option (Int × Tok),v=partValue l∧l.map (·.1)=o:=by
 cases p with
 | none=>exact ⟨none,rfl,rfl⟩
 | int i t=>exact ⟨some (i,t),rfl,rfl⟩
theorem pe_slice3 {e st:Expr} {lo hi:Option Expr} {te ts:TE} {tl th:TO} {p2 pos:Pos} (he:PE X e te) (hl:PO X lo tl) (hu:PO X hi th) (hs:PE X st ts):PE X (.Subscript e (.Slice lo hi (some st) p2) pos) (tSl3 rSl3 te tl th ts):=by
 intro pins s σ H Q I h
 refine Subscript_ (thn (he pins s σ H _ I h) fun v s1 ⟨x,H1,I1,r1,q1⟩=>?_)
 refine wpAny_Slice (thn (hl pins s1 σ H1 _ I1 q1) fun vl s2 ⟨l,H2,I2,pl,q2⟩=>thn (hu pins s2 σ H2 _ I2 q2) fun vu s3 ⟨u,H3,I3,pu,q3⟩=>?_)
 refine thn (hs pins s3 σ H3 _ I3 q3) fun vs s4 ⟨y,H4,I4,r4,i,ey,z,ex,hst,hz,hzp,q4⟩=>?_
 subst ey ex
 obtain ⟨t,rfl⟩:=r1
 obtain ⟨t4,rfl⟩:=r4
 obtain ⟨l',rfl,hl'⟩:=part_of pl
 obtain ⟨u',rfl,hu'⟩:=part_of pu
 have I5:Inv X pins σ H4 { s4 with heap:=s4.heap.push { cls:=.type "slice", data:=.fields #[partValue l',partValue u',.int i t4] } }:=I4.kept (t':=s4.toks) fun b ob q=>Heap.get?_push_of_some _ q
 show wpAny (model X.prog X.w) X.A (subscriptTail e (.Slice lo hi (some st) p2) (.str z t) (.ref s4.heap.objs.size)) (EP X pins σ Q) X.xe { s4 with heap:=s4.heap.push { cls:=.type "slice", data:=.fields #[partValue l',partValue u',.int i t4] } }
 refine tail_any (ops:=[.ref s4.heap.objs.size,.str z t]) (typeIs_str _ _ _) PySem.F.slot_str_getitem.lookup ?_ (by with_unfolding_all rfl)
 refine wpAny_getItem_str_slice (l:=l') (u:=u') (st:=some (i,t4)) ⟨_,Heap.get?_push_size _ rfl,rfl,rfl⟩ (by simpa using hst) ?_
 have e:slicePicked z l' u' (some (i,t4))=Builtin.Str.strSliceIndices l u i z.length:=by unfold slicePicked;rw [hl',hu'];rfl
 unfold sliceMade
 rw [e]
 have ep:(⟨((Builtin.Str.strSliceIndices l u i z.length).filterMap (z.cps[·]?)).toArray⟩:Str)=T (picks z l u i):=by
  unfold picks T;congr 3;funext k;simp [Lt]
 rw [ep]
 refine post_val_or_str ⟨?_,fun t' k=>⟨.str _,H4,I5.tok _,⟨t',rfl⟩,q4 _ ?_⟩⟩
 ·split
  ·exact hz
  ·exact hzp
 ·split
  ·rename_i hc
   rw [Bool.and_eq_true] at hc
   exact .inr ⟨by simpa using hc.1,rfl⟩
  ·exact .inl rfl
theorem r_sl3 {σ:St} {H:Hp} {Q:VK} {r:V→Option Int→Option Int→Int→Hp→VK→Prop} {te ts:TE} {tl th:TO} (h:te σ H fun x H1=>tl σ H1 fun l H2=>th σ H2 fun u H3=>ts σ H3 fun s H4=>∃ i,s = .int i∧r x l u i H4 Q):tSl3 r te tl th ts σ H Q:=h
end
def NoAttrs (K:W.Frag) (C:Addr):List Str→Prop
 | []=>True
 | f::r=>NoAttr K C f∧NoAttrs K C r
theorem NoAttrs.at {K : W.Frag} {C : Addr} {f : Str} : ∀ {l : List Str}, NoAttrs K C l → f ∈ l → NoAttr K C f
  | [], _, h => by cases h
  | g :: r, n, h => by
    rcases List.mem_cons.mp h with rfl | h
    · exact n.1
    · exact n.2.at h
def bfs (wd:Int) (f:Nat) (x:Str) (st:Bool) (more:List (Str × V)):List (Str × V):=("width", .int wd)::("fill", .str (T [f]))::("side", .str x)::("strict", .bl st)::more
def bns:List Str:=["width", "fill", "side", "strict"]
structure FormAt (K:W.Frag) (H:Hp) (a C:Addr) (wd:Int) (f:Nat) (x:Str) (st:Bool) (more:List (Str × V)):Prop where
 at_ : ∃ dx,H a=some (.ins C dx (bfs wd f x st more))
 cl:Cls K C
 na:NoAttrs K C (bns++more.map (·.1))
section
variable {K : W.Frag} {H H' : Hp} {a C : Addr} {wd : Int} {f : Nat} {x : Str} {st : Bool} {more : List (Str × V)} {g m : Str} {v : V}
theorem FormAt.same (s:Same H H') (F:FormAt K H a C wd f x st more):FormAt K H' a C wd f x st more:=⟨F.at_.imp fun _ e=>s _ _ e,F.cl,F.na⟩
theorem bfs_width:(bfs wd f x st more).lookup ("width" : Str)=some (.int wd):=lk_eq
theorem bfs_fill:(bfs wd f x st more).lookup ("fill" : Str)=some (.str (T [f])):=(lk_ne (by decide +kernel)).trans lk_eq
theorem bfs_side:(bfs wd f x st more).lookup ("side" : Str)=some (.str x):=(lk_ne (by decide +kernel)).trans ((lk_ne (by decide +kernel)).trans lk_eq)
theorem bfs_strict:(bfs wd f x st more).lookup ("strict" : Str)=some (.bl st):=(lk_ne (by decide +kernel)).trans ((lk_ne (by decide +kernel)).trans ((lk_ne (by decide +kernel)).trans lk_eq))
theorem bfs_more (h:g ∉ bns):(bfs wd f x st more).lookup g=more.lookup g:=by
 simp only [bns,List.mem_cons,List.not_mem_nil,or_false,not_or] at h
 exact (lk_ne h.1).trans ((lk_ne h.2.1).trans ((lk_ne h.2.2.1).trans (lk_ne h.2.2.2)))
theorem FormAt.fld (F:FormAt K H a C wd f x st more) (n:g ∈ bns++more.map (·.1)) (l:(bfs wd f x st more).lookup g=some v):FldAt K H a g v:=by
 obtain ⟨dx,e⟩:=F.at_
 exact ⟨C,dx,_,e,F.cl,F.na.at n,l⟩
theorem FormAt.width (F:FormAt K H a C wd f x st more):FldAt K H a "width" (.int wd):=F.fld (List.mem_append_left _ (by decide +kernel)) bfs_width
theorem FormAt.fill (F:FormAt K H a C wd f x st more):FldAt K H a "fill" (.str (T [f])):=F.fld (List.mem_append_left _ (by decide +kernel)) bfs_fill
theorem FormAt.side (F:FormAt K H a C wd f x st more):FldAt K H a "side" (.str x):=F.fld (List.mem_append_left _ (by decide +kernel)) bfs_side
theorem FormAt.strict (F:FormAt K H a C wd f x st more):FldAt K H a "strict" (.bl st):=F.fld (List.mem_append_left _ (by decide +kernel)) bfs_strict
theorem FormAt.own (F:FormAt K H a C wd f x st more) (h:g ∉ bns) (l:more.lookup g=some v) (n:g ∈ more.map (·.1)):FldAt K H a g v:=F.fld (List.mem_append_right _ n) ((bfs_more h).trans l)
theorem FormAt.meth (F:FormAt K H a C wd f x st more) (h:m ∉ bns) (l:more.lookup m=none):InsM H a C m:=by
 obtain ⟨dx,e⟩:=F.at_
 exact ⟨dx,_,e,(bfs_more h).trans l⟩
theorem bfs_put (h:g ∉ bns):putF g v (bfs wd f x st more)=bfs wd f x st (putF g v more):=by
 simp only [bns,List.mem_cons,List.not_mem_nil,or_false,not_or] at h
 unfold bfs
 rw [putF_ne (Ne.symm h.1),putF_ne (Ne.symm h.2.1),putF_ne (Ne.symm h.2.2.1),putF_ne (Ne.symm h.2.2.2)]
end
section
variable {X : Cx} {K : W.Frag} {σ : St} {H : Hp} {Q : VK} {is : List Nat} {tt : TT} {te : TE}
theorem range_allB (bs:List Bool):((List.range bs.length).all fun i=>(bs[i]?).getD true)=bs.all id:=by
 rw [Bool.eq_iff_iff,List.all_eq_true,List.all_eq_true]
 constructor
 ·intro h b hb
  obtain ⟨i,hi,rfl⟩:=List.getElem_of_mem hb
  have:=h i (List.mem_range.mpr hi)
  simpa [List.getElem?_eq_getElem hi] using this
 ·intro h i hi
  have hi':=List.mem_range.mp hi
  have:=h _ (List.getElem_mem hi')
  simpa [List.getElem?_eq_getElem hi'] using this
def rAll (K:W.Frag):List V→Hp→VK→Prop:=fun xs H Q=>∃ (p:Addr) (bs:List Bool),xs=[.ref p]∧SqL K H p (bs.map V.bl)∧Q (.bl (bs.all id)) H
theorem call_allB (hc:X.calm=true):CallR X (.builtin "all") (rAll X.K):=by
 intro pins s σ H xs us Q I r h
 obtain ⟨p,bs,rfl,hp,q⟩:=h
 obtain ⟨u,rfl,ru⟩:=r.one
 cases ru
 obtain ⟨its,ri,pl,hz⟩:=I.list hp
 have hl:=pl.isList
 have hlt:p < s.heap.objs.size:=by obtain ⟨_,e,_⟩:=hl;exact Heap.lt_size e
 have hlen:its.length=bs.length:=by have:=ri.length;rw [List.length_map] at this;exact this.symm
 refine call_all_walk (wpAny_pyIter_list hl ?_)
 refine ⟨s.heap.objs.size,[s.heap.objs.size,p],[s.heap.objs.size],its.toArray.size,_,_,fun i=>(bs[i]?).getD true,rfl,Walks.list (A:=X.A.in1) (I.ok.hd hc) _ p (Nat.ne_of_lt hlt) its.toArray,
  ⟨⟨_,Heap.get?_push_size _ rfl,rfl,rfl⟩,hl.push _⟩,fun i v s' Q' E' hP hQ=>?_,fun h' tk hk=>?_⟩
 ·have hP':its[i]? = some v:=by simpa using hP
  have hi:i < bs.length:=by
   rcases Nat.lt_or_ge i its.length with z | z
   ·omega
   ·rw [List.getElem?_eq_none z] at hP';cases hP'
  obtain ⟨u,hu,ru⟩:=ri.get (i:=i) (x:=.bl bs[i]) (by rw [List.getElem?_map,List.getElem?_eq_getElem hi];rfl)
  rw [hP'] at hu;cases hu
  cases ru
  simp only [List.getElem?_eq_getElem hi,Option.getD_some] at hQ
  exact wpAny_truthy_bool hQ
 ·have e:((List.range its.toArray.size).all fun i=>(bs[i]?).getD true)=bs.all id:=by
   rw [List.size_toArray,hlen];exact range_allB bs
  rw [e]
  exact ⟨.bl _,H,I.kept fun b x eb=>hk b x (fun hm=>by rw [List.mem_singleton.mp hm] at eb;exact Nat.lt_irrefl _ (Heap.lt_size eb)) (Heap.get?_push_of_some _ eb),rfl,q⟩
theorem r_all {p:Addr} {bs:List Bool} (h:SqL K H p (bs.map V.bl)) (q:Q (.bl (bs.all id)) H):rAll K [.ref p] H Q:=⟨p,bs,rfl,h,q⟩
theorem r_inTx {c:Nat} {a:List Nat} (q:Q (.bl (decide (c ∈ a))) H):rInS (.str (T [c])) (.str (T a)) H Q:=r_inS (by
 have e:=PySem.StrLaws.found_one (T a) c
 rw [show (T [c])=(⟨#[c]⟩:Str) from rfl,e];exact q)
theorem bo_all:bootBuiltins "all" = some (.builtin "all"):=by decide +kernel
def kCompS (is:List Nat) (tt:TT) (te:TE) (σ:St) (Q:VK) (x:V) (H:Hp):Prop:=∃ z:Str,x = .str z∧kComp is tt te σ Q (Its z) H
theorem r_compS {tl:TE} (h:tl σ H (kCompS is tt te σ Q)):tComp is (iStr tl) tt te σ H Q:=h
theorem r_kCompS {a:List Nat} (hz:a.length≤sizeLine) (Pv:Nat→List V→Hp→Prop) (h0:Pv 0 [] H) (hl : ∀ i ys H,i≤a.length→Pv i ys H→ys.length≤i)
  (hs : ∀ i c ys H,a[i]? = some c→i < a.length→Pv i ys H→tt (some (.str (T [c]))::is.map fun j=>(σ[j]?).getD none) H fun ok H2=>if ok=true then te (some (.str (T [c]))::is.map fun j=>(σ[j]?).getD none) H2 fun y H3=>NxC a.length Pv i (ys++[y]) H3 else NxC a.length Pv i ys H2)
  (hd : ∀ ys H,Pv a.length ys H → ∀ p H',Same H H'→H' p=some (.lst ys)→Q (.ref p) H'):kCompS is tt te σ Q (.str (T a)) H:=by
 refine ⟨T a,rfl,fun i m ys H=>m=a.length - i∧i≤a.length∧Pv i ys H,⟨a.length,by simp,Nat.zero_le _,h0⟩,?_⟩
 rintro i m ys H ⟨rfl,hi,p⟩
 have ly:=hl i ys H hi p
 refine ⟨by omega,?_⟩
 by_cases hlt:i < a.length
 ·refine .inr ⟨hlt,by omega,fun x H' y=>?_⟩
  obtain ⟨rfl,c,hc,rfl⟩:=y
  exact hs i c ys _ hc hlt p
 ·have e:i=a.length:=by omega
  subst e
  exact .inl ⟨rfl,fun p' hp=>hd ys H p p' _ (same_new hp _) upd_same⟩
end
mutual
inductive Dt (K:W.Frag) (H:Hp):V→PyData→Prop
 | non:Dt K H .non .none
 | bl (b:Bool):Dt K H (.bl b) (.bool b)
 | int (i:Int):Dt K H (.int i) (.int i)
 | str (z:Str):Dt K H (.str z) (.str z)
 | lst {p:Addr} {xs:List V} {ds:List PyData}:SqL K H p xs→Dts K H xs ds→Dt K H (.ref p) (.list ds)
 | tup {p:Addr} {xs:List V} {ds:List PyData}:SqT K H p xs→Dts K H xs ds→Dt K H (.ref p) (.tuple ds)
inductive Dts (K:W.Frag) (H:Hp):List V→List PyData→Prop
 | nil:Dts K H [] []
 | cons {x:V} {d:PyData} {xs:List V} {ds:List PyData}:Dt K H x d→Dts K H xs ds→Dts K H (x::xs) (d::ds)
end
section
variable {X : Cx} {pins : List (Addr × Obj)} {σ : St} {H H' : Hp} {s : Shared} {K : W.Frag} {Q : VK}
mutual
theorem reads_of (I : Inv X pins σ H s) : ∀ {x : V} {d : PyData} {u : Value}, Dt X.K H x d → RelV x u → ∃ as, Reads s.heap u d as
  | _, _, _, .non, r => by cases r; exact ⟨_, .none⟩
  | _, _, _, .bl b, r => by cases r; exact ⟨_, .bool b⟩
  | _, _, _, .int i, r => by obtain ⟨t, rfl⟩ := r; exact ⟨_, .int i t⟩
  | _, _, _, .str z, r => by obtain ⟨t, rfl⟩ := r; exact ⟨_, .str z t⟩
  | _, _, _, .lst h hs, r => by
    cases r
    obtain ⟨its, ri, pl, _⟩ := I.list h
    obtain ⟨as, q⟩ := readsAll_of I hs ri
    obtain ⟨o, e, c, n, d⟩ := pl.isList
    exact ⟨_, .list e c d (by simpa using q)⟩
  | _, _, _, .tup h hs, r => by
    cases r
    obtain ⟨its, ri, pl, _⟩ := I.tuple h
    obtain ⟨as, q⟩ := readsAll_of I hs ri
    obtain ⟨o, e, c, n, d⟩ := pl
    exact ⟨_, .tuple e c d (by simpa using q)⟩
theorem readsAll_of (I : Inv X pins σ H s) : ∀ {xs : List V} {ds : List PyData} {us : List Value}, Dts X.K H xs ds → Vals xs us → ∃ as, ReadsAll s.heap us ds as
  | _, _, _, .nil, .nil => ⟨_, .nil⟩
  | _, _, _, .cons h hs, .cons r rs => by
    obtain ⟨as, q⟩ := reads_of I h r
    obtain ⟨bs, qs⟩ := readsAll_of I hs rs
    exact ⟨_, .cons q qs⟩
end
mutual
theorem Dt.same (g:Same H H') : ∀ {x:V} {d:PyData},Dt K H x d→Dt K H' x d
 | _,_,.non=>.non
 | _,_,.bl b=>.bl b
 | _,_,.int i=>.int i
 | _,_,.str z=>.str z
 | _,_,.lst h hs=>.lst (g.seq h) (Dts.same g hs)
 | _,_,.tup h hs=>.tup (SqT.same h g) (Dts.same g hs)
theorem Dts.same (g:Same H H') : ∀ {xs:List V} {ds:List PyData},Dts K H xs ds→Dts K H' xs ds
 | _,_,.nil=>.nil
 | _,_,.cons h hs=>.cons (Dt.same g h) (Dts.same g hs)
end
def rEqD (K:W.Frag):R2:=fun x y H Q=>∃ d,Dt K H x d∧Dt K H y d∧d.canLay0=true∧d.depth≤20∧Q (.bl true) H
theorem op_eqD (hu:X.A.units+20 < cLine):OpR X (compareOp .Eq) (rEqD X.K):=by
 intro pins s σ H x y v u Q I rx ry h
 obtain ⟨d,h1,h2,c,dp,q⟩:=h
 obtain ⟨as,r1⟩:=reads_of I h1 rx
 obtain ⟨bs,r2⟩:=reads_of I h2 ry
 refine SeqAt.compareEq_reads r1 r2 c c (by rw [Nat.min_self];omega) ⟨.bl _,H,I,rfl,?_⟩
 rw [SeqAt.eqv_refl d c];exact q
theorem hu20 {A:Around} {k:Nat} (hr:Room k A):A.units+20 < cLine:=Nat.lt_of_le_of_lt (Nat.add_le_add_left (by decide:20≤64) _) hr.units
theorem r_eqD {x y:V} {d:PyData} (h1:Dt K H x d) (h2:Dt K H y d) (c:d.canLay0=true) (dp:d.depth≤20) (q:Q (.bl true) H):rEqD K x y H Q:=⟨d,h1,h2,c,dp,q⟩
end
end L2
namespace L2
open PySem PySem.Spec PyProof.Rows
def RsA (H:Hp) (v:V) (d:PyData):Prop:=(∃ z:Str,v = .str z∧d = .str z) ∨ ∃ (q:Addr) (z:Str),v = .ref q∧H q=some (.tup [.str z])∧d = .tuple [.str z]
section
variable {H H' : Hp} {v : V} {d : PyData} {K : W.Frag}
theorem RsA.same (g:Same H H') (h:RsA H v d):RsA H' v d:=by
 rcases h with ⟨z,a,b⟩ | ⟨q,z,a,e,b⟩
 ·exact .inl ⟨z,a,b⟩
 ·exact .inr ⟨q,z,a,g _ _ e,b⟩
end
theorem picks_step {a:List Nat} {s st:Int} (h0:0≤s) (h1:s < a.length) (h2:1≤st):picks (T a) (some s) none st≠[]∧(∀ c ∈ picks (T a) (some s) none st,c ∈ a)∧((picks (T a) (some s) none st).length:Int)≤a.length+st:=by
 have e:Builtin.Str.strSliceIndices (some s) none st (T a).length=(List.range (((a.length:Int) - s+st - 1) / st).toNat).map fun k:Nat=>(s+st*(k:Int)).toNat:=by
  have l:((T a).length:Int)=a.length:=rfl
  unfold Builtin.Str.strSliceIndices
  dsimp only
  rw [l,if_neg (show ¬ s < 0 by omega),if_pos (show st > 0 by omega),if_pos (show st > 0 by omega),Int.min_eq_left (by omega),Int.max_eq_right h0]
  unfold sliceRange
  rw [if_pos (show st > 0 by omega),if_pos h1]
 have hc:1≤((a.length:Int) - s+st - 1) / st:=Int.le_ediv_of_mul_le (by omega) (by omega)
 have hc2:((a.length:Int) - s+st - 1) / st≤(a.length:Int) - s+st - 1:=Int.ediv_le_self _ (by omega)
 unfold picks
 rw [e,Lt_T]
 refine ⟨fun z=>?_,fun c hcm=>?_,?_⟩
 ·rw [List.filterMap_eq_nil_iff] at z
  have:=z (s+st*((0:Nat):Int)).toNat (List.mem_map.mpr ⟨0,List.mem_range.mpr (by omega),rfl⟩)
  rw [show (s+st*((0:Nat):Int)).toNat=s.toNat by simp,List.getElem?_eq_getElem (by omega)] at this
  cases this
 ·obtain ⟨i,_,hi⟩:=List.mem_filterMap.mp hcm
  exact List.mem_of_getElem? hi
 ·have:=List.length_filterMap_le (fun x=>a[x]?) ((List.range (((a.length:Int) - s+st - 1) / st).toNat).map fun k:Nat=>(s+st*(k:Int)).toNat)
  rw [List.length_map,List.length_range] at this
  omega
theorem pe_callH0 {X:Cx} {x:Str} {k n:Nat} {ps:List Str} {sp:Sp} {p pos:Pos} (F:Has X.prog X.w X.K X.mg X.base x k ps sp) (hr:Room n X.A) (hg:Gl X x) (hk:k≤n:=by decide) (hdb:(x == ("__debug__" : Str))=false:=by decide) :
  PE X (.Call (.Name x p) [] [] pos) (tCall sp [] E0 tNil):=by
 obtain ⟨f,fd,G,hm,kp,hb⟩:=F
 exact pe_call0 G (hr.mono hk) hg hm kp hb .nil pass0 hdb
def low (b:Nat):Nat→Nat→List Nat
 | 0,_=>[]
 | p+1,n=>low b p (n / b)++[fc (n % b)]
theorem figs_pos {b n:Nat} (h2:2≤b):1≤(figs b n).length:=by
 rcases Nat.lt_or_ge n b with h | h
 ·rw [figs_lt h,List.length_singleton];exact Nat.le_refl _
 ·rw [figs_ge h2 h,List.length_append,List.length_singleton];omega
theorem binds_dflt {K:W.Frag} {fd:FuncData} {ps:List Str} {t:Addr} {oc:Value} {od:Option Addr} {it:Array Value} {n:Nat} {osl:Array (Option Value)} (hl:K.lookup t=some ⟨oc,od,.seq it n,osl⟩) (hd:fd.defaults = .ref t)
  (h : ∀ us:List Value,us.length=ps.length → ∃ k,bindArgs fd ⟨us,[]⟩=seqItems? fd.defaults >>= k∧k (some it)=pure (ps.zip us)):Binds K fd ps []:=fun s us hK hlen=>by
 rw [List.append_nil] at hlen ⊢
 obtain ⟨k,h1,h2⟩:=h us hlen
 exact .of_defaults hd (hK _ _ hl) rfl h1 h2
set_option maxHeartbeats 1000000
structure MadeR (h h':Heap) (e C:Addr):Prop where
 keeps : ∀ b o,h.get? b=some o→h'.get? b=some o
 new:h.get? e=none
 there : ∃ oe vs a0,h'.get? e=some oe∧oe.cls = .ref C∧oe.data = .fields vs∧vs[1]? = some .none∧vs[0]? = some a0
def fj (c:Nat) (us:List (List Nat)):List Nat:=(us.map ([c] ++ ·)).flatten
theorem fj_cons {c:Nat} {u:List Nat} {us:List (List Nat)}:fj c (u::us)=c::(u++fj c us):=by
 unfold fj;simp
theorem fj_span {c : Nat} : ∀ {x y : List Nat} {xs ys : List (List Nat)}, c ∉ x → c ∉ y → x ++ fj c xs = y ++ fj c ys → x = y ∧ fj c xs = fj c ys
  | [], [], _, _, _, _, h => ⟨rfl, h⟩
  | [], b :: y, [], ys, _, _, h => by unfold fj at h; simp at h
  | [], b :: y, u :: us, ys, _, h2, h => by
    rw [fj_cons, List.nil_append, List.cons_append, List.cons.injEq] at h
    exact absurd (h.1 ▸ List.mem_cons_self ..) h2
  | a :: x, [], xs, [], _, _, h => by unfold fj at h; simp at h
  | a :: x, [], xs, u :: us, h1, _, h => by
    rw [fj_cons, List.nil_append, List.cons_append, List.cons.injEq] at h
    exact absurd (h.1 ▸ List.mem_cons_self ..) h1
  | a :: x, b :: y, xs, ys, h1, h2, h => by
    rw [List.cons_append, List.cons_append, List.cons.injEq] at h
    obtain ⟨e1, e2⟩ := fj_span (fun z => h1 (List.mem_cons_of_mem _ z)) (fun z => h2 (List.mem_cons_of_mem _ z)) h.2
    exact ⟨by rw [h.1, e1], e2⟩
theorem fj_inj {c : Nat} : ∀ {xs ys : List (List Nat)}, (∀ t ∈ xs, c ∉ t) → (∀ t ∈ ys, c ∉ t) → fj c xs = fj c ys → xs = ys
  | [], [], _, _, _ => rfl
  | [], y :: ys, _, _, h => by rw [fj_cons] at h; unfold fj at h; simp at h
  | x :: xs, [], _, _, h => by rw [fj_cons] at h; unfold fj at h; simp at h
  | x :: xs, y :: ys, h1, h2, h => by
    rw [fj_cons, fj_cons, List.cons.injEq] at h
    obtain ⟨e1, e2⟩ := fj_span (h1 x (List.mem_cons_self ..)) (h2 y (List.mem_cons_self ..)) h.2
    rw [e1, fj_inj (fun t ht => h1 t (List.mem_cons_of_mem _ ht)) (fun t ht => h2 t (List.mem_cons_of_mem _ ht)) e2]
theorem jn_inj {c : Nat} {xs ys : List (List Nat)} (n1 : xs ≠ []) (n2 : ys ≠ []) (h1 : ∀ t ∈ xs, c ∉ t) (h2 : ∀ t ∈ ys, c ∉ t) (h : jn [c] xs = jn [c] ys) : xs = ys := by
  cases xs with
  | nil => exact absurd rfl n1
  | cons x xs =>
    cases ys with
    | nil => exact absurd rfl n2
    | cons y ys =>
      obtain ⟨e1, e2⟩ := fj_span (h1 x (List.mem_cons_self ..)) (h2 y (List.mem_cons_self ..)) (show x ++ fj c xs = y ++ fj c ys from h)
      rw [e1, fj_inj (fun t ht => h1 t (List.mem_cons_of_mem _ ht)) (fun t ht => h2 t (List.mem_cons_of_mem _ ht)) e2]
theorem split_jn {c:Nat} {ws:List (List Nat)} (n:ws≠[]) (h : ∀ t ∈ ws,c ∉ t):Txt.split (T (jn [c] ws)) (T [c])=ws.map T:=by
 have e:=StrLaws.join_split (T (jn [c] ws)) (T [c])
 have fr:=StrLaws.split_free (T (jn [c] ws)) c
 have np:=split_pos (T (jn [c] ws)) (T [c])
 generalize hq:Txt.split (T (jn [c] ws)) (T [c])=q at *
 have eq:q=(q.map Lt).map T:=by
  rw [List.map_map];conv=>lhs;rw [← List.map_id q]
  exact List.map_congr_left fun z _=>(T_Lt z).symm
 have e':T (jn [c] (q.map Lt))=T (jn [c] ws):=by
  rw [← e]
  have j:=join_T (T [c]) (q.map Lt)
  rw [← eq,Lt_T] at j
  rw [← j]
  exact StrLaws.glued_eq_join _ _
 have fr' : ∀ t ∈ q.map Lt,c ∉ t:=fun t ht=>by
  obtain ⟨z,hz,rfl⟩:=List.mem_map.mp ht
  exact fr z (by rw [show (⟨#[c]⟩:Str)=T [c] from rfl,hq];exact hz)
 rw [eq,jn_inj (by intro z;rw [List.map_eq_nil_iff] at z;rw [z] at np;simp at np) n fr' h (T_eq.mp e')]
section
variable {X : Cx} {H : Hp} {Q : VK} {K : W.Frag}
open PySem.Builtin PySem.Builtin.Str in
theorem split_at {prog:Program} {w:World} {A:Around} {E:Value→Shared→Prop} {s:Shared} {x y:Str} {t u:Tok} {R:Value→Shared→Prop} (ne:(y.length == 0)=false)
  (fin : ∀ (l:List (Str × Tok)) k,l.map (·.1)=Txt.split x y→R (.ref s.heap.objs.size) { s with toks:=k,heap:=s.heap.push { cls:=.type "list", data:=.seq (strValues l).toArray } })
  (z1:x.length≤sizeLine) (z2:(partsBetween x (occurrences x y 0 x.length (x.length+1)) y.length).length≤sizeLine):wpAny (model prog w) A (call (.builtin "str.split") [.str x t,.str y u]) R E s:=by
 have arg:=F.args_str_split_2 (.str x t) (.str y u)
 rcases Bool.eq_false_or_eq_true (decide (x.length < y.length) || decide (strKind x < strKind y)) with no | may
 ·have m:=meets_str_split_cannot_occur x y t u no
  refine call_meets F.slot_str_split (typeIs_str _ _ _) F.entry_str_split arg m (fin [(x,t)] _ ?_)
  unfold Txt.split
  rw [if_pos no];rfl
 rcases Bool.eq_false_or_eq_true (occurrences x y 0 x.length (x.length+1)).isEmpty with nix | got
 ·have m:=meets_str_split_not_found x y t u may ne nix
  refine call_meets F.slot_str_split (typeIs_str _ _ _) F.entry_str_split arg m (fin [(x,t)] _ ?_)
  unfold Txt.split
  rw [if_neg (by rw [may];decide),if_pos nix];rfl
 ·have m:=meets_str_split_sep x y t u may ne got z1 z2
  have q:=fin (numbered s.toks (partsBetween x (occurrences x y 0 x.length (x.length+1)) y.length)) (s.toks+(partsBetween x (occurrences x y 0 x.length (x.length+1)) y.length).length) (by
   rw [numbered_texts];unfold Txt.split
   rw [if_neg (by rw [may];decide),if_neg (by rw [got];decide)])
  rw [← strsFrom_eq] at q
  exact call_meets F.slot_str_split (typeIs_str _ _ _) F.entry_str_split arg m q
theorem split_bd {x y:Str} (hx:x.length+2≤sizeLine):(Builtin.Str.partsBetween x (Builtin.Str.occurrences x y 0 x.length (x.length+1)) y.length).length≤sizeLine:=by
 rw [len_partsBetween]
 have:=StrLaws.occ_length_le x y 0 x.length (x.length+1)
 omega
def rSplitT:V→List V→Hp→VK→Prop:=fun x xs H Q=>∃ (c:Nat) (ws:List (List Nat)),x = .str (T (jn [c] ws))∧xs=[.str (T [c])]∧ws≠[]∧(∀ t ∈ ws,c ∉ t)∧(jn [c] ws).length≤16777000∧ws.length≤16777000 ∧ ∀ l,H l=none→Q (.ref l) (upd H l (.lst (tsV ws)))
theorem vals_ts : ∀ {l : List (Str × Tok)} {ws : List (List Nat)}, l.map (·.1) = ws.map T → Vals (tsV ws) (strValues l)
  | [], [], _ => .nil
  | [], _ :: _, h => by simp at h
  | _ :: _, [], h => by simp at h
  | (z, t) :: l, w :: ws, h => by
    rw [List.map_cons, List.map_cons, List.cons.injEq] at h
    have h1 : z = T w := h.1
    subst h1
    exact .cons ⟨t, rfl⟩ (vals_ts h.2)
theorem mt_splitT:MtR X "str.split" rSplitT:=by
 intro pins s σ H x xs v us Q I rx rv h
 obtain ⟨c,ws,rfl,rfl,n,fr,z1,z2,q⟩:=h
 obtain ⟨t,rfl⟩:=rx
 obtain ⟨u,rfl,ru⟩:=rv.one
 obtain ⟨t',rfl⟩:=ru
 have hx:(T (jn [c] ws)).length+2≤sizeLine:=Nat.le_trans (show (jn [c] ws).length+2≤16777216 by omega) (by decide)
 refine split_at rfl (fun l k hl=>?_) (by omega) (split_bd hx)
 rw [split_jn n fr] at hl
 refine ⟨.ref s.heap.objs.size,_,I.laid (a:=s.heap.objs.size) (o:=.lst (tsV ws)) (fun b u e=>Heap.get?_push_of_some _ e) (Nat.le_refl _) ?_,rfl,q _ (I.hok.fresh (Nat.le_refl _))⟩
 refine ⟨Nat.le_trans (show (tsV ws).length≤16777216 by rw [show (tsV ws).length=ws.length from List.length_map _];omega) (by decide),strValues l,0,vals_ts hl,?_⟩
 exact Heap.get?_push_size _ rfl
theorem r_splitT {c:Nat} {ws:List (List Nat)} (n:ws≠[]) (fr : ∀ t ∈ ws,c ∉ t) (z1:(jn [c] ws).length≤16777000) (z2:ws.length≤16777000) (q : ∀ l H',Same H H'→H l=none→H' l=some (.lst (tsV ws))→Q (.ref l) H'):rSplitT (.str (T (jn [c] ws))) [.str (T [c])] H Q:=⟨c,ws,rfl,rfl,n,fr,z1,z2,fun l hl=>q l _ (same_upd (Same.refl _) hl) hl upd_same⟩
def dEnt (w:World) (e:Str × Tok × Value):DictEntry:=⟨hashStr w e.1,.str e.1 e.2.1,e.2.2⟩
def KDs (w:World) (K:W.Frag) (d:Addr) (ks:List Str):Prop:=(d == sysModules)=false ∧ ∃ (kvs:List (Str × Tok × Value)) (n:Nat),K.lookup d=some { cls:=.type "dict", data:=.dict (kvs.map (dEnt w)).toArray n }∧ks=kvs.map (·.1)∧ks.Nodup∧ks.length≤1000
def rListKD (w:World) (K:W.Frag):List V→Hp→VK→Prop:=fun xs H Q=>∃ d ks,xs=[.ref d]∧KDs w K d ks ∧ ∀ l,H l=none→Q (.ref l) (upd H l (.lst (ks.map V.str)))
theorem isStrOf_shape {k:Str} {v:Value} (h:Value.isStrOf k v=true) : ∃ t,v = .str k t:=by
 rcases keyIs_shape (k:=Sum.inr k) h with ⟨i,t,z,_⟩ | ⟨x,t,z,e⟩
 ·cases z
 ·cases z;exact ⟨t,e⟩
theorem vals_keys : ∀ {ks : List Str} {vs : List Value}, vs.length = ks.length → (∀ (j : Nat) (v : Value), vs[j]? = some v → ∃ k, ks[j]? = some k ∧ Value.isStrOf k v = true) → Vals (ks.map V.str) vs
  | [], [], _, _ => .nil
  | [], _ :: _, h, _ => by simp at h
  | _ :: _, [], h, _ => by simp at h
  | k :: ks, v :: vs, h, hv => by
    obtain ⟨k', e, hk⟩ := hv 0 v rfl
    cases e
    exact .cons (isStrOf_shape hk) (vals_keys (by simpa using h) fun j u hu => hv (j + 1) u hu)
theorem pairs_ent {P:Program} {w:World} : ∀ (kvs:List (Str × Tok × Value)),Pairs (PySem.strKind P w) (kvs.map (dEnt w)) (kvs.map fun e=>(e.1,e.2.2))
 | []=>.nil
 | e::kvs=>.cons (by simp [PySem.strKind,Value.isStrOf,dEnt]) rfl (pairs_ent kvs)
theorem call_listKD (hc:X.calm=true):CallR X (.type "list") (rListKD X.w X.K):=by
 intro pins s σ H xs us Q I r h
 obtain ⟨d,ks,rfl,⟨lo,kvs,n,lk,ek,nd,hz⟩,q⟩:=h
 obtain ⟨u,rfl,rx⟩:=vals1 r
 cases rx
 have ho:=I.kIn d _ lk
 have hl:ks.length=kvs.length:=by rw [ek,List.length_map]
 have hl2:(kvs.map fun e=>(e.1,e.2.2)).length=ks.length:=by rw [List.length_map,hl]
 refine W.kdl_call (W.kdl_dict (knd:=PySem.strKind X.prog X.w) (kvs:=kvs.map fun e=>(e.1,e.2.2)) (ep:=n) lo) (I.ok.hd hc) ⟨_,_,ho,⟨rfl,rfl,rfl⟩,rfl,?_,?_,?_⟩ (by rw [hl2];exact small hz) fun h' tk acc' c' kp e hacc=>?_
 ·intro e he
  obtain ⟨z,_,rfl⟩:=List.mem_map.mp (show e ∈ kvs.map (dEnt X.w) from (List.mem_toArray).mp he)
  exact ⟨z.1,by simp [PySem.strKind,Value.isStrOf,dEnt],rfl⟩
 ·exact pairs_ent kvs
 ·rw [List.map_map];rw [ek] at nd;exact nd
 ·refine ⟨.ref s.heap.objs.size,_,I.laid (t':=tk) kp (Nat.le_refl _) (show ObjOk X.prog X.w _ h' _ (.lst (ks.map V.str)) from ⟨by rw [List.length_map];exact small hz,acc'.toList,c',?_,by rw [Array.toArray_toList];exact e⟩),rfl,q _ (I.hok.fresh (Nat.le_refl _))⟩
  refine vals_keys (by rw [Array.length_toList,hacc.1,hl2]) fun j v hv=>?_
  obtain ⟨k,x,e1,e2⟩:=hacc.2 j v (by rw [← Array.getElem?_toList];exact hv)
  refine ⟨k,?_,e2⟩
  rw [List.getElem?_map] at e1
  rw [ek,List.getElem?_map]
  cases hj:kvs[j]? with
  | none=>rw [hj] at e1;cases e1
  | some z=>rw [hj] at e1;cases e1;rfl
theorem r_listKD {w:World} {d:Addr} {ks:List Str} (h:KDs w K d ks) (q : ∀ l H',Same H H'→H l=none→H' l=some (.lst (ks.map V.str))→Q (.ref l) H'):rListKD w K [.ref d] H Q:=⟨d,ks,rfl,h,fun l hl=>q l _ (same_upd (Same.refl _) hl) hl upd_same⟩
end
theorem kds_sty {w:World} {K:W.Frag} {d:Addr} {n0:Nat} {t0 t1 t2 t3 t4:Tok} {v0 v1 v2 v3 v4:Value} (lo:(d == sysModules)=false)
  (hd:K.lookup d=some { cls:=.type "dict", data:=.dict #[⟨PyData.keyHash w.params "minus", .str "minus" t0,v0⟩,⟨PyData.keyHash w.params "plus", .str "plus" t1,v1⟩,⟨PyData.keyHash w.params "blank", .str "blank" t2,v2⟩,⟨PyData.keyHash w.params "brackets", .str "brackets" t3,v3⟩,⟨PyData.keyHash w.params "behind", .str "behind" t4,v4⟩] n0 }):KDs w K d ["minus", "plus", "blank", "brackets", "behind"]:=
 ⟨lo,[("minus", t0,v0),("plus", t1,v1),("blank", t2,v2),("brackets", t3,v3),("behind", t4,v4)],n0,hd,rfl,by decide +kernel,by decide⟩
def KDt (w:World) (K:W.Frag) (d:Addr) (z v:Str):Prop:=∃ (es:Array DictEntry) (n:Nat) (t:Tok),K.lookup d=some { cls:=.type "dict", data:=.dict es n }∧(∀ e,e ∈ es → ∃ k,Value.isStrOf k e.key=true∧e.hash=hashStr w k)∧findBy Value.isStrOf es z=some (.str v t)
def rIxDt (w:World) (K:W.Frag):R2:=fun x y H Q=>∃ d z v,x = .ref d∧y = .str z∧KDt w K d z v∧Q (.str v) H
section
variable {X : Cx} {H : Hp} {Q : VK} {K : W.Frag} {w : World}
theorem ix_kdt:IxR X (rIxDt X.w X.K):=by
 intro value slice pins s σ H x y v u Q I rx ry h hs
 obtain ⟨d,z,p,rfl,rfl,⟨es,n,tk,lk,ks,f⟩,q⟩:=h
 cases rx
 obtain ⟨t,rfl⟩:=ry
 have ho:=I.kIn d _ lk
 have fin : ∀ k,EP X pins σ Q (.str p tk) { s with toks:=k }:=fun k=>⟨.str p,H,I.tok _,⟨tk,rfl⟩,q⟩
 exact subscriptTail_builtinR (x:=.str p tk) ⟨_,ho,rfl⟩ slot_dict_getitem.lookup
  (wpAny_getItem_of (knd:=PySem.strKind X.prog X.w) (k:=z) (f:=fun k=>findBy Value.isStrOf es k) (Q:=fun r s'=>r = .str p tk∧EP X pins σ Q r s') (by simp [PySem.strKind,Value.isStrOf]) ⟨_,es,n,ho,⟨rfl,rfl,rfl⟩,rfl,ks,fun k=>rfl⟩ f ⟨rfl,fin _⟩) hs
theorem ix_kdtK (e1:X.w=w) (e2:X.K=K):IxR X (rIxDt w K):=e1 ▸ e2 ▸ ix_kdt
theorem r_ixDt {d:Addr} {z v:Str} (h:KDt w K d z v) (q:Q (.str v) H):rIxDt w K (.ref d) (.str z) H Q:=⟨d,z,v,rfl,rfl,h,q⟩
end
theorem r_seqJ {s R:TS} {D:Ends} {σ:St} {H:Hp} (I:St→Hp→Prop) (h2 : ∀ σ' H',I σ' H'→R D σ' H') (h1 : ∀ R':TS,(∀ σ' H',I σ' H'→R' D σ' H')→tSeq s R' D σ H):tSeq s R D σ H:=h1 R h2
theorem putF_eq {f:Str} {v x:V} {r:List (Str × V)}:putF f v ((f,x)::r)=(f,v)::r:=by
 rw [show putF f v ((f,x)::r)=(if f=f then (f,v)::r else (f,x)::putF f v r) from rfl,if_pos rfl]
def wfs (L:Addr) (n:Nat):List (Str × V):=[("words", .ref L),("at", .int n)]
def Wr (K:W.Frag) (C:Addr) (H:Hp) (a:Addr) (rest:List (List Nat)):Prop:=∃ (dx L:Addr) (ws:List (List Nat)) (n:Nat),H a=some (.ins C dx (wfs L n))∧SqL K H L (tsV ws)∧n≤ws.length∧ws.drop n=rest∧ws.length≤100
section
variable {K : W.Frag} {C : Addr} {H H' : Hp} {a L dx : Addr} {n : Nat} {rest : List (List Nat)}
theorem Wr.same (g:Same H H') (h:Wr K C H a rest):Wr K C H' a rest:=let ⟨d,L,ws,n,e1,e2,e3,e4,e5⟩:=h;⟨d,L,ws,n,g.at e1,g.seq e2,e3,e4,e5⟩
theorem wf_words:(wfs L n).lookup ("words" : Str)=some (.ref L):=lk_eq
theorem wf_at:(wfs L n).lookup ("at" : Str)=some (.int n):=(lk_ne (by decide +kernel)).trans lk_eq
theorem wf_none {m:Str} (h1:m ≠ "words") (h2:m ≠ "at"):(wfs L n).lookup m=none:=(lk_ne h1).trans ((lk_ne h2).trans rfl)
theorem wf_put {k:Nat}:putF "at" (.int k) (wfs L n)=wfs L k:=by
 unfold wfs
 rw [putF_ne (by decide +kernel),putF_eq]
theorem SB.tup {xs:List V} {p:Addr} (s:SB a H H') (w:Wr K C H a rest) (h:H p=some (.tup xs)):H' p=some (.tup xs):=by
 obtain ⟨d,L,ws,n,e1,_⟩:=w
 exact s p _ (fun z=>by subst z;rw [e1] at h;cases h) h
theorem SB.lst {xs:List V} {p:Addr} (s:SB a H H') (w:Wr K C H a rest) (h:H p=some (.lst xs)):H' p=some (.lst xs):=by
 obtain ⟨d,L,ws,n,e1,_⟩:=w
 exact s p _ (fun z=>by subst z;rw [e1] at h;cases h) h
theorem SB.trans {F:Hp} (s:SB a H H') (t:SB a H' F):SB a H F:=fun b o n e=>t b o n (s b o n e)
theorem SB.of (g:Same H H'):SB a H H':=fun b o _ e=>g _ _ e
end
def rNotN:R2:=fun x y H Q=>y = .non∧Q (.bl (!decide (x = .non))) H
theorem op_notN2 {X:Cx}:OpR X (compareOp .IsNot) rNotN:=op_notN
theorem r_notNI {i:Int} {H:Hp} {Q:VK} (q:Q (.bl true) H):rNotN (.int i) .non H Q:=⟨rfl,by rw [decide_eq_false (fun z=>nomatch z)];exact q⟩
section
variable {X : Cx} {tg : Expr}
structure StepB (lo hi c:Int) (n:Nat):Prop where
 one:1≤c
 lit:Builtin.Range.small lo hi c=true
 num:Builtin.Range.rangeSize lo hi c=n
 room:Builtin.divisionGoesByPylong (hi - lo) c=false
end
section
variable {σ : St} {H : Hp} {Q : VK} {D : Ends} {K : W.Frag}
def rLtS:R2:=fun x y H Q=>∃ i j,x = .str i∧y = .str j∧Q (.bl (decide (i.cps.toList < j.cps.toList))) H
def ltT (a b:List Nat):Bool:=decide ((T a).cps.toList < (T b).cps.toList)
theorem r_ltT {a b:List Nat} (q:Q (.bl (ltT a b)) H):rLtS (.str (T a)) (.str (T b)) H Q:=⟨_,_,rfl,rfl,q⟩
theorem op_ltS {X:Cx}:OpR X (compareOp .Lt) rLtS:=op_lt_str
end
def shortB (z:Nat→Str) (i j:Nat):Bool:=decide (((z i).length:Int) < ((z j).length:Int))
def sh (z:Nat→Str) (j:Nat):Nat:=argBest (shortB z) j
theorem sh_succ (z:Nat→Str) (j:Nat):sh z (j+1)=if shortB z (j+1) (sh z j)=true then j+1 else sh z j:=rfl
section
variable {prog : Program} {w : World} {A : Around} {R : Result → Shared → Prop} {I : Addr} {fp wr : List Addr} {n : Nat} {z : Nat → Str} {St : Nat → Heap → Prop}
theorem minLen_loop (hz : ∀ i, (z i).length ≤ sizeLine) (W : Walks prog w A.in1 I fp wr n (fun i v => ∃ t, v = .str (z i) t) St) (S : Addr) (out : S ∉ fp) :
    ∀ (left j : Nat) (s : Shared) (x y : Value) (c : Nat), n = j + 1 + left → St (j + 1) s.heap → (∃ t, x = .str (z (sh z j)) t) → (∃ u, y = .int (z (sh z j)).length u) →
      s.heap.get? S = some { cls := .type "list", dict := none, data := .seq #[x, y] c, slots := #[] } →
      (∀ v h tk, (∃ t, v = .str (z (sh z (n - 1))) t) → (∀ b o, b ∉ wr → b ≠ S → s.heap.get? b = some o → h.get? b = some o) → R (.ok (.ret v)) { s with heap := h, toks := tk }) →
      codeAny (model prog w) A (.builtin "min.loop" ⟨[.ref I, .builtin "len", .ref S], []⟩) R s := by
  have apart : S ∉ wr := fun q => out (W.sub _ q)
  have nm : (toString "min" ++ toString ".loop" : String) = "min.loop" := by decide
  intro left
  induction left with
  | zero =>
    intro j s x y c en st bx hy at_ fin
    have en' : n = j + 1 := en
    subst en'
    refine codeAny_builtin F.entry_min_loop ?_
    rw [Around.under_plainId F.plain_min_loop _]
    refine (show wpAny (model prog w) A.in1 (seqItems? (.ref S) >>= _) _ _ s from wpAny_bind (wpAny_seqItems at_ rfl ?_))
    refine (show wpAny (model prog w) A.in1 (tryCatch (pyNext (.ref I)) _ >>= _) _ _ s from wpAny_bind (wpAny_tryCatch (W.done s _ _ st fun h1 tk keep => ?_)))
    have at1 := keep S _ apart at_
    refine (show wpAny (model prog w) A.in1 (updateSeq S (fun _ => #[]) >>= _) _ _ _ from wpAny_bind (wpAny_updateSeq at1 rfl (wpAny_bind (wpAny_letGo (wpAny_pure ?_)))))
    exact fin x _ tk bx fun b o nb ns e => (Heap.get?_update_other _ _ (fun q => ns q.symm)).trans (keep b o nb e)
  | succ left ih =>
    intro j s x y c en st bx hy at_ fin
    refine codeAny_builtin F.entry_min_loop ?_
    rw [Around.under_plainId F.plain_min_loop _]
    refine (show wpAny (model prog w) A.in1 (seqItems? (.ref S) >>= _) _ _ s from wpAny_bind (wpAny_seqItems at_ rfl ?_))
    refine (show wpAny (model prog w) A.in1 (tryCatch (pyNext (.ref I)) _ >>= _) _ _ s from wpAny_bind (wpAny_tryCatch (W.item (j + 1) s _ _ (by omega) st fun v h1 tk hv st1 keep => ?_)))
    obtain ⟨t, rfl⟩ := hv
    have at1 := keep S _ apart at_
    have l63 := line63
    have lz := hz (j + 1)
    refine (show wpAny (model prog w) A.in1 (tryCatch (holding [Value.str (z (j + 1)) t] (call (.builtin "len") [Value.str (z (j + 1)) t])) _ >>= _) _ _ _ from wpAny_bind (wpAny_tryCatch (wpAny_holding (len_str (by omega) ?_))))
    refine (show wpAny (model prog w) A.in1 (tryCatch (holding _ (richCompare .Lt _ y >>= _)) _ >>= _) _ _ _ from wpAny_bind (wpAny_tryCatch (wpAny_holding (wpAny_bind
      (CmpOf.ints_lt (P := fun i v => ∃ u, v = .int ((z i).length : Int) u) (fun i => ((z i).length : Int)) (fun _ _ q => q) (j + 1) (sh z j) _ y _ _ _ ⟨_, rfl⟩ hy ?_)))))
    refine wpAny_bind (wpAny_holding (wpAny_truthy_bool ?_))
    refine wpAny_bind (wpAny_letGo (wpAny_pure ?_))
    have stp := sh_succ z j
    cases hb : decide (((z (j + 1)).length : Int) < ((z (sh z j)).length : Int)) with
    | true =>
      rw [if_pos (show shortB z (j + 1) (sh z j) = true from hb)] at stp
      rw [if_pos hb]
      refine wpAny_bind ?_
      refine wpAny_updateSeq at1 rfl (wpAny_bind (wpAny_letGo ?_))
      rw [nm]
      refine wpAny_pure ⟨plainId_quiet F.plain_min_loop _, ih (j + 1) _ _ _ _ (by omega) (W.frame _ _ _ st1 fun b hb' o e => ?_) ⟨t, by rw [stp]⟩ ⟨_, by rw [stp]⟩ (Heap.get?_update_self _ at1 rfl) fun v' h2 tk' pv keep' => ?_⟩
      · exact (Heap.get?_update_other _ _ (fun q : S = b => out (q ▸ hb'))).trans e
      · exact fin v' h2 tk' pv fun b o nb ns e => keep' b o nb ns ((Heap.get?_update_other _ _ (fun q => ns q.symm)).trans (keep b o nb e))
    | false =>
      rw [if_neg (show ¬ shortB z (j + 1) (sh z j) = true from fun q => by rw [show shortB z (j + 1) (sh z j) = false from hb] at q; cases q)] at stp
      rw [if_neg (fun q => Bool.noConfusion (hb.symm.trans q))]
      refine wpAny_bind (wpAny_letGo ?_)
      rw [nm]
      refine wpAny_pure ⟨plainId_quiet F.plain_min_loop _, ih (j + 1) _ x y c (by omega) st1 (by rw [stp]; exact bx) (by rw [stp]; exact hy) at1 fun v' h2 tk' pv keep' => ?_⟩
      exact fin v' h2 tk' pv fun b o nb ns e => keep' b o nb ns (keep b o nb e)
theorem minLen_first (hz : ∀ i,(z i).length≤sizeLine) (W:Walks prog w A.in1 I fp wr n (fun i v=>∃ t,v = .str (z i) t) St) (S:Addr) (out:S ∉ fp) (hn:0 < n) {s:Shared} {c:Nat} (st:St 0 s.heap)
  (at_:s.heap.get? S=some { cls:=.type "list", dict:=none,data:=.seq #[] c,slots:=#[] })
  (fin : ∀ v h tk,(∃ t,v = .str (z (sh z (n - 1))) t)→(∀ b o,b ∉ wr→b≠S→s.heap.get? b=some o→h.get? b=some o)→R (.ok (.ret v)) { s with heap:=h,toks:=tk }) :
  codeAny (model prog w) A (.builtin "min.loop" ⟨[.ref I,.builtin "len", .ref S],[]⟩) R s:=by
 have apart:S ∉ wr:=fun q=>out (W.sub _ q)
 have nm:(toString "min" ++ toString ".loop" : String) = "min.loop" := by decide
 refine codeAny_builtin F.entry_min_loop ?_
 rw [Around.under_plainId F.plain_min_loop _]
 refine (show wpAny (model prog w) A.in1 (seqItems? (.ref S) >>= _) _ _ s from wpAny_bind (wpAny_seqItems at_ rfl ?_))
 refine (show wpAny (model prog w) A.in1 (tryCatch (pyNext (.ref I)) _ >>= _) _ _ s from wpAny_bind (wpAny_tryCatch (W.item 0 s _ _ hn st fun v h1 tk hv st1 keep=>?_)))
 obtain ⟨t,rfl⟩:=hv
 have at1:=keep S _ apart at_
 have l63:=line63
 have lz:=hz 0
 refine (show wpAny (model prog w) A.in1 (tryCatch (holding [Value.str (z 0) t] (call (.builtin "len") [Value.str (z 0) t])) _ >>= _) _ _ _ from wpAny_bind (wpAny_tryCatch (wpAny_holding (len_str (by omega) ?_))))
 refine wpAny_bind ?_
 refine wpAny_updateSeq at1 rfl ?_
 rw [nm]
 refine wpAny_pure ⟨plainId_quiet F.plain_min_loop _,minLen_loop hz W S out (n - 1) 0 _ _ _ _ (by omega) (W.frame _ _ _ st1 fun b hb' o e=>?_) ⟨t,rfl⟩ ⟨_,rfl⟩ (Heap.get?_update_self _ at1 rfl) fun v' h2 tk' pv keep'=>?_⟩
 ·exact (Heap.get?_update_other _ _ (fun q:S=b=>out (q ▸ hb'))).trans e
 ·exact fin v' h2 tk' pv fun b o nb ns e=>keep' b o nb ns ((Heap.get?_update_other _ _ (fun q=>ns q.symm)).trans (keep b o nb e))
end
section
variable {prog : Program} {w : World} {A : Around} {E : Value → Shared → Prop} {s : Shared}
theorem call_minLen {x : Value} {Q : Value → Shared → Prop}
    (h : wpAny (model prog w) A.in1 (pyIter x) (fun it s2 => ∃ (I : Addr) (fp wr : List Addr) (n : Nat) (z : Nat → Str) (St : Nat → Heap → Prop), it = .ref I ∧ (∀ i, (z i).length ≤ sizeLine) ∧ Walks prog w A.in1 I fp wr n (fun i v => ∃ t, v = .str (z i) t) St ∧ St 0 s2.heap ∧ (∀ b ∈ fp, b < s2.heap.objs.size) ∧ 0 < n ∧
      ∀ v h' tk, (∃ t, v = .str (z (sh z (n - 1))) t) → (∀ b o, b ∉ wr → s2.heap.get? b = some o → h'.get? b = some o) → Q v { s2 with heap := h', toks := tk }) E s) :
    wpAny (model prog w) A (call (.builtin "min") [x] [("key", .builtin "len")]) Q E s := by
  have nm : (toString "min" ++ toString ".loop" : String) = "min.loop" := by decide
  have fits : argsOk "min" ⟨[x], [("key", .builtin "len")]⟩ := by unfold argsOk; kernel_rfl
  have bound : Builtin.Builtins.bindParams "min" ["key", "default"] 0 ⟨[], [("key", Value.builtin "len")]⟩ = pure [some (.builtin "len"), none] := rfl
  have body : wpAny (model prog w) A.in1 (Builtin.«min» ⟨[x], [("key", .builtin "len")]⟩) (fun fin s' => match fin with
      | .done f => (match (Except.ok f : Result) with | .ok (.ret v) => Q v s' | .ok _ => False | .error e => E e s')
      | .again c' => c'.quiet = true ∧ codeAny (model prog w) A c' (fun r s' => match r with | .ok (.ret v) => Q v s' | .ok _ => False | .error e => E e s') s') E s := by
    refine (show wpAny (model prog w) A.in1 (Builtin.Builtins.bindParams "min" ["key", "default"] 0 ⟨[], [("key", Value.builtin "len")]⟩ >>= _) _ _ s from wpAny_bind (wpAny_of_eq bound ?_))
    refine wpAny_bind (wpAny_pure (wpAny_bind (wpAny_mono h (fun it s2 g => ?_) fun _ _ e => e)))
    obtain ⟨I, fp, wr, n, z, St, rfl, hz, W, st, low, hn, fin⟩ := g
    refine wpAny_bind (wpAny_newObj_type ?_)
    have out : s2.heap.objs.size ∉ fp := fun q => Nat.lt_irrefl _ (low _ q)
    rw [nm]
    refine wpAny_pure ⟨plainId_quiet F.plain_min_loop _, minLen_first hz W _ out hn (W.frame _ _ _ st fun b _ o e => Heap.get?_push_of_some _ e) (Heap.get?_push_size _ rfl) fun v h' tk pv keep => ?_⟩
    exact fin v h' tk pv fun b o nb e => keep b o nb (Nat.ne_of_lt (Heap.lt_size e)) (Heap.get?_push_of_some _ e)
  refine wpAny_call (codeAny_call_builtin F.plain_min F.entry_min ?_)
  simp only [checkBuiltinCall, F.kind_min]
  cases hs : Manifest.signature? "min" with
  | none => exact wpAny_pure body
  | some sig =>
    have f2 : Bind.checkArgs "min" sig ⟨[x], [("key", .builtin "len")]⟩ = pure () := by simpa only [argsOk, hs] using fits
    simp only [f2]
    exact wpAny_pure body
end
theorem sh_spec (z : Nat → Str) : ∀ k, sh z k ≤ k ∧ ∀ i, i ≤ k → (z (sh z k)).length ≤ (z i).length
  | 0 => ⟨Nat.le_refl _, fun i hi => by rw [show i = 0 by omega]; exact Nat.le_refl _⟩
  | k + 1 => by
    obtain ⟨h1, h2⟩ := sh_spec z k
    rw [sh_succ]
    unfold shortB
    split
    · rename_i hc
      have hc' := of_decide_eq_true hc
      refine ⟨Nat.le_refl _, fun i hi => ?_⟩
      rcases Nat.lt_or_ge i (k + 1) with q | q
      · have := h2 i (by omega); omega
      · rw [show i = k + 1 by omega]; exact Nat.le_refl _
    · rename_i hc
      have hc' : ¬ (((z (k + 1)).length : Int) < ((z (sh z k)).length : Int)) := fun q => hc (decide_eq_true q)
      refine ⟨by omega, fun i hi => ?_⟩
      rcases Nat.lt_or_ge i (k + 1) with q | q
      · exact h2 i (by omega)
      · rw [show i = k + 1 by omega]; omega
theorem walks_as {prog:Program} {w:World} {A:Around} {I:Addr} {fp wr:List Addr} {n:Nat} {P P':Nat→Value→Prop} {St:Nat→Heap→Prop} (W:Walks prog w A I fp wr n P St) (imp : ∀ i v,P i v→P' i v):Walks prog w A I fp wr n P' St where
 sub:=W.sub
 frame:=W.frame
 item:=fun i s Q E hi st hQ=>W.item i s Q E hi st fun v h tk hv=>hQ v h tk (imp i v hv)
 done:=W.done
 self:=W.self
theorem vals_ts_at : ∀ {ts : List (List Nat)} {its : List Value}, Vals (tsV ts) its → ∀ i v, its[i]? = some v → ∃ t, v = Value.str (T (ts.getD i [])) t
  | [], _, .nil, i, v, e => by simp at e
  | _ :: _, _, .cons r rr, 0, v, e => by
    obtain ⟨t, rfl⟩ := r
    simp at e
    exact ⟨t, e.symm⟩
  | _ :: ts, _, .cons r rr, i + 1, v, e => by
    have e' : _ = some v := e
    rw [List.getElem?_cons_succ] at e'
    obtain ⟨t, h⟩ := vals_ts_at rr i v e'
    exact ⟨t, by rw [List.getD_cons_succ]; exact h⟩
def rMinLen (K:W.Frag):V→Hp→VK→Prop:=fun x H Q=>∃ p ts,x = .ref p∧SqL K H p (tsV ts)∧ts≠[]∧(∀ t ∈ ts,t.length≤1000) ∧ ∀ t,t ∈ ts→(∀ u ∈ ts,t.length≤u.length)→Q (.str (T t)) H
section
variable {X : Cx}
theorem pe_minLen {a:Expr} {ta:TA} {p p2 kp pos:Pos} (hc:X.calm=true) (hg:Gl X "min") (hm:X.mg "min" = none) (hg2:Gl X "len") (hm2:X.mg "len" = none) (ha:PA X [a] ta)
  (he:backTo pos (starEach [a] X.env)=(false,eval a X.env)::backTo pos (starEach [] X.env):=by rfl) (hpl:(backTo pos (starEach [a] X.env)).any (·.1)=false:=by rfl):PE X (.Call (.Name "min" p) [a] [⟨some "key", .Name "len" p2,kp⟩] pos) (fun σ H Q=>ta σ H fun vs H1=>∃ x,vs=[x]∧rMinLen X.K x H1 Q):=by
 intro pins s σ H Q I h
 refine wpAny_Call_Name_kw (ld_blt I hg hm (u:=.builtin "min") rfl ?_)
 refine PyProof.Rows.callWith_kw (thn (ha pos pins s σ H _ I h) fun us s1 ⟨vs,H1,I1,r1,x,ev,q1⟩=>?_) he hpl
 refine PyProof.Rows.kws_cons (ld_blt I1 hg2 hm2 (u:=.builtin "len") rfl (PyProof.Rows.kws_nil ?_))
 subst ev
 obtain ⟨u,rfl,rx⟩:=vals1 r1
 obtain ⟨pp,ts,rfl,hq,hne,hl,q⟩:=q1
 cases rx
 obtain ⟨its,rv,pl,hz⟩:=I1.list hq
 have ln:its.length=ts.length:=by have:=rv.length;rw [show (tsV ts).length=ts.length from List.length_map _] at this;omega
 have pos0:0 < ts.length:=List.length_pos_iff.mpr hne
 refine call_minLen (wpAny_pyIter_list pl.isList ?_)
 have nI:pp≠s1.heap.objs.size:=fun e=>by
  obtain ⟨o,n,g,_⟩:=pl
  have:=Heap.lt_size g
  rw [e] at this;exact Nat.lt_irrefl _ this
 have val : ∀ i v,its.toArray[i]? = some v → ∃ t,v=Value.str (T (ts.getD i [])) t:=fun i v e=>vals_ts_at rv i v (by rw [← List.getElem?_toArray];exact e)
 have W:=walks_as (P':=fun i v=>∃ t,v=Value.str (T (ts.getD i [])) t) (Walks.list (prog:=X.prog) (w:=X.w) (A:=X.A.in1) (I1.ok.hd hc) s1.heap.objs.size pp nI its.toArray) val
 have szs:its.toArray.size=ts.length:=by simp [ln]
 have long : ∀ i,(T (ts.getD i [])).length≤sizeLine:=fun i=>by
  refine Nat.le_trans (show (ts.getD i []).length≤1000 from ?_) (by decide)
  rcases Nat.lt_or_ge i ts.length with k | k
  ·rw [List.getD_eq_getElem?_getD,List.getElem?_eq_getElem k];exact hl _ (List.getElem_mem k)
  ·rw [List.getD_eq_getElem?_getD,List.getElem?_eq_none k];exact Nat.zero_le _
 refine ⟨_,_,_,_,fun i=>T (ts.getD i []),_,rfl,long,W,⟨⟨_,Heap.get?_push_size _ rfl,rfl,rfl⟩,?_⟩,fun b hb=>?_,by rw [szs];exact pos0,fun v h' tk pv keep=>?_⟩
 ·obtain ⟨o,n,g,r⟩:=pl.isList
  exact ⟨o,Heap.get?_push_of_some _ n,g,r⟩
 ·have lt:b < s1.heap.objs.size+1:=by
   rcases List.mem_cons.mp hb with e | e
   ·rw [e];exact Nat.lt_succ_self _
   ·rw [List.mem_singleton.mp e]
    obtain ⟨o,g,_⟩:=pl.isList
    exact Nat.lt_succ_of_lt (Heap.lt_size g)
  exact Nat.lt_of_lt_of_le lt (Nat.le_of_eq (Array.size_push _).symm)
 ·obtain ⟨t,rfl⟩:=pv
  obtain ⟨c1,c2⟩:=sh_spec (fun i=>T (ts.getD i [])) (its.toArray.size - 1)
  generalize hi:sh (fun i=>T (ts.getD i [])) (its.toArray.size - 1)=i at c1 c2 ⊢
  have il:i < ts.length:=by omega
  have mem:ts.getD i [] ∈ ts:=by rw [List.getD_eq_getElem?_getD,List.getElem?_eq_getElem il];exact List.getElem_mem il
  refine ⟨.str (T (ts.getD i [])),H1,I1.kept (t':=tk) (fun b o e=>keep b o (fun m=>?_) (Heap.get?_push_of_some _ e)),⟨t,rfl⟩,q _ mem fun u hu=>?_⟩
  ·rw [List.mem_singleton.mp m] at e
   exact Nat.lt_irrefl _ (Heap.lt_size e)
  ·obtain ⟨k,hk,rfl⟩:=List.mem_iff_getElem.mp hu
   have:=c2 k (by omega)
   rw [show ts.getD k []=ts[k] by rw [List.getD_eq_getElem?_getD,List.getElem?_eq_getElem hk];rfl] at this
   exact this
end
def tOrE (t1 t2:TE):TE:=fun σ H Q=>t1 σ H Q∨t2 σ H Q
section
variable {X : Cx} {σ : St} {H : Hp} {Q : VK} {K : W.Frag} {w : World}
theorem pe_orE {e:Expr} {t1 t2:TE} (h1:PE X e t1) (h2:PE X e t2):PE X e (tOrE t1 t2):=fun pins s σ H Q I h=>h.elim (h1 pins s σ H Q I) (h2 pins s σ H Q I)
theorem r_orL {t1 t2:TE} (h:t1 σ H Q):tOrE t1 t2 σ H Q:=.inl h
theorem r_orR {t1 t2:TE} (h:t2 σ H Q):tOrE t1 t2 σ H Q:=.inr h
def KDi (w:World) (K:W.Frag) (d:Addr) (z:Str) (b:Bool):Prop:=(d == sysModules)=false ∧ ∃ (es:Array DictEntry) (n:Nat),K.lookup d=some { cls:=.type "dict", data:=.dict es n }∧(∀ e,e ∈ es → ∃ k,Value.isStrOf k e.key=true∧e.hash=hashStr w k)∧(findBy Value.isStrOf es z).isSome=b
def rInD (w:World) (K:W.Frag):R2:=fun x y H Q=>∃ d z b,x = .str z∧y = .ref d∧KDi w K d z b∧Q (.bl b) H
theorem op_inD:OpR X (compareOp .In) (rInD X.w X.K):=by
 intro pins s σ H x y v u Q I rx ry h
 obtain ⟨d,z,b,rfl,rfl,⟨lo,es,n,lk,ks,f⟩,q⟩:=h
 cases ry
 obtain ⟨t,rfl⟩:=rx
 have ho:=I.kIn d _ lk
 exact wpAny_in_of (knd:=PySem.strKind X.prog X.w) (k:=z) (f:=fun k=>findBy Value.isStrOf es k) (by simp [PySem.strKind,Value.isStrOf]) lo ⟨_,es,n,ho,⟨rfl,rfl,rfl⟩,rfl,ks,fun k=>rfl⟩ ⟨.bl _,H,I.tok _,rfl,by rw [f];exact q⟩
theorem r_inD {d:Addr} {z:Str} {b:Bool} (h:KDi w K d z b) (q:Q (.bl b) H):rInD w K (.str z) (.ref d) H Q:=⟨d,z,b,rfl,rfl,h,q⟩
end
theorem runs_toks {M:Model} {Γ:PySem.Ctx} {p:Pos} {t:Sem Fin} {fs:List Frame} {s s':Shared} {e:End} (h:Runs M Γ p t fs s e s'):s.toks≤s'.toks:=by
 induction h with
 | done=>exact Nat.le_refl _
 | raise=>exact Nat.le_refl _
 | yield=>exact Nat.le_refl _
 | fresh _ ih=>exact Nat.le_trans (Nat.le_succ _) ih
 | call _ _ i1 i2=>exact Nat.le_trans i1 i2
 | resumeFresh _ _ _ _ i1 i2=>exact Nat.le_trans i1 i2
 | resumeSuspended _ _ _ _ i1 i2=>exact Nat.le_trans i1 i2
 | segRet _ _ i1 i2=>exact Nat.le_trans i1 i2
 | segGen _ _ i1 i2=>exact Nat.le_trans i1 i2
 | segSuspGen _ _ _ _ i1 i2=>exact Nat.le_trans i1 i2
 | _=>assumption
theorem wp_toks {α : Type} {M : Model} {Γ : PySem.Ctx} (n : Nat) : ∀ (t : Sem α) (Q : α → Pos → Shared → Prop) (E : Value → Pos → Shared → Prop) (p : Pos) (s : Shared), n ≤ s.toks → Sem.wp M Γ t Q E p s → Sem.wp M Γ t (fun a p' s' => Q a p' s' ∧ n ≤ s'.toks) (fun e p' s' => E e p' s' ∧ n ≤ s'.toks) p s := by
  intro t
  induction t with
  | pure a => intro Q E p s l h; rw [Sem.wp] at h ⊢; exact ⟨h, l⟩
  | raise e => intro Q E p s l h; rw [Sem.wp] at h ⊢; exact ⟨h, l⟩
  | unsupported w => intro Q E p s l h; rw [Sem.wp] at h; exact h.elim
  | finish e => intro Q E p s l h; rw [Sem.wp] at h; exact h.elim
  | rule tag k ih => intro Q E p s l h; rw [Sem.wp] at h ⊢; exact ih _ _ _ _ _ l h
  | «at» pos k ih => intro Q E p s l h; rw [Sem.wp] at h ⊢; exact ih _ _ _ _ _ l h
  | load a part k ih => intro Q E p s l h; rw [Sem.wp] at h ⊢; obtain ⟨o, e, h⟩ := h; exact ⟨o, e, ih _ _ _ _ _ l h⟩
  | update a part f k ih => intro Q E p s l h; rw [Sem.wp] at h ⊢; exact ⟨h.1, ih _ _ _ _ _ l h.2⟩
  | alloc o k ih => intro Q E p s l h; rw [Sem.wp] at h ⊢; exact ih _ _ _ _ _ l h
  | loadIfAlive a k ih => intro Q E p s l h; rw [Sem.wp] at h ⊢; exact ih _ _ _ _ _ l h
  | point live k ih => intro Q E p s l h; rw [Sem.wp] at h ⊢; exact ih _ _ _ _ _ l h
  | register a k ih => intro Q E p s l h; rw [Sem.wp] at h; exact h.elim
  | fresh k ih => intro Q E p s l h; rw [Sem.wp] at h ⊢; exact ih _ _ _ _ _ (Nat.le_succ_of_le l) h
  | ask k ih => intro Q E p s l h; rw [Sem.wp] at h ⊢; exact ih _ _ _ _ _ l h
  | choose src m k ih => intro Q E p s l h; rw [Sem.wp] at h ⊢; exact ⟨h.1, ih _ _ _ _ _ l h.2⟩
  | os req live k ih => intro Q E p s l h; rw [Sem.wp] at h ⊢; exact ih _ _ _ _ _ l h
  | call c hd g live k ih => intro Q E p s l h; rw [Sem.wp] at h ⊢; obtain ⟨r, s1, hr, h⟩ := h; exact ⟨r, s1, hr, ih _ _ _ _ _ (Nat.le_trans l (runs_toks hr)) h⟩
  | handled own k ih => intro Q E p s l h; rw [Sem.wp] at h ⊢; exact ih _ _ _ _ _ l h
  | newGen c k ih => intro Q E p s l h; rw [Sem.wp] at h ⊢; exact ih _ _ _ _ _ l h
  | genState g k ih => intro Q E p s l h; rw [Sem.wp] at h ⊢; obtain ⟨st, e, h⟩ := h; exact ⟨st, e, ih _ _ _ _ _ l h⟩
  | resume g r live k ih =>
    intro Q E p s l h; rw [Sem.wp] at h ⊢
    obtain ⟨res, s1, hw, h⟩ := h
    refine ⟨res, s1, hw, ih _ _ _ _ _ (Nat.le_trans l ?_) h⟩
    unfold Wakes at hw
    split at hw
    · exact hw.elim
    · split at hw
      · obtain ⟨e1, s2, hr, _, _, rfl⟩ := hw; exact (show s.toks ≤ s2.toks from runs_toks (s := s.setGen g .running) hr)
      · rw [hw.2]; exact Nat.le_refl _
      · rw [hw.2]; exact Nat.le_refl _
    · obtain ⟨e1, s2, hr, _, _, rfl⟩ := hw; exact (show s.toks ≤ s2.toks from runs_toks (s := s.setGen g .running) hr)
    · rw [hw.2]; exact Nat.le_refl _
    · rw [hw.2]; exact Nat.le_refl _
  | yield v g live k ih => intro Q E p s l h; rw [Sem.wp] at h; exact h.elim
  | stack k ih => intro Q E p s l h; rw [Sem.wp] at h ⊢; exact ih _ _ _ _ _ l h
  | fork c k ih => intro Q E p s l h; rw [Sem.wp] at h; exact h.elim
  | thread k ih => intro Q E p s l h; rw [Sem.wp] at h ⊢; exact ih _ _ _ _ _ l h
  | await a take timed live k ih => intro Q E p s l h; rw [Sem.wp] at h; exact h.elim
theorem any_toks {α:Type} {M:Model} {A:Around} {t:Sem α} {Q:α→Shared→Prop} {E:Value→Shared→Prop} {s:Shared} (h:wpAny M A t Q E s):wpAny M A t (fun a s'=>Q a s'∧s.toks≤s'.toks) (fun e s'=>E e s'∧s.toks≤s'.toks) s:=
 fun Γ p hΓ=>wp_toks s.toks t _ _ p s (Nat.le_refl _) (h Γ p hΓ)
section
variable {X : Cx} {CX : CXT} {k : Nat} {f : Addr} {fd : FuncData} {ps : List Str} {sp : Sp} {dvs : List V} {ds : List Value} {E : XK} {x : Str} {p pos : Pos} {e a : Expr} {es : List Expr} {te ta : TE} {t : TA}
def PEp (X:Cx) (e:Expr) (t:TE):Prop:=
 ∀ (pins:List (Addr × Obj)) (s:Shared) (σ:St) (H:Hp) (Q:VK),Inv X pins σ H s→t σ H Q→wpAny (model X.prog X.w) X.A (eval e X.env) (fun v s'=>EP X pins σ Q v s'∧0 < s'.toks) X.xe s
def PAp (X:Cx) (es:List Expr) (t:TA):Prop:=
 ∀ (pos:Pos) (pins:List (Addr × Obj)) (s:Shared) (σ:St) (H:Hp) (Q:List V→Hp→Prop),Inv X pins σ H s→t σ H Q→wpAny (model X.prog X.w) X.A (spliced (backTo pos (starEach es X.env))) (fun us s'=>AP X pins σ Q us s'∧0 < s'.toks) X.xe s
theorem pep_op {op:Operator} {r:R2} {n:Int} {j:Nat} {p2:Pos} (ho:OpR X (binaryOp op) r) (ha:PE X a ta):PEp X (.BinOp a op (.Constant (.int n) j p2) pos) (tOp r ta (tC (.int n))):=by
 intro pins s σ H Q I h
 refine wpAny_BinOp (thn (ha pins s σ H _ I h) fun v s1 ⟨y,H1,I1,r1,q1⟩=>?_)
 refine wpAny_Constant_int ?_
 have w:=any_toks (ho pins { s1 with toks:=s1.toks+1 } σ H1 y (.int n) v (.int n s1.toks) Q (I1.tok _) r1 ⟨_,rfl⟩ q1)
 exact wpAny_mono w (fun u s2 ⟨g,l⟩=>⟨g,Nat.lt_of_lt_of_le (Nat.succ_pos _) (show s1.toks+1≤s2.toks from l)⟩) fun _ s2 g=>g.1
theorem pap_one (ha:PEp X e te) (hs:starEach [e] X.env=[(false,eval e X.env)]:=by rfl):PAp X [e] (tCons te tNil):=by
 intro pos pins s σ H Q I h
 rw [hs]
 show wpAny _ _ (spliced ((false,eval e X.env)::backTo pos [])) _ _ s
 refine Calls.spliced_cons (thn (ha pins s σ H _ I h) fun u s1 ⟨⟨y,H1,I1,r1,q1⟩,l⟩=>?_)
 exact Calls.spliced_nil ⟨⟨[y],H1,I1,.cons r1 .nil,q1⟩,l⟩
theorem pap_cons (ha:PE X e te) (hr:PAp X es t) (hs:starEach (e::es) X.env=(false,eval e X.env)::starEach es X.env:=by rfl):PAp X (e::es) (tCons te t):=by
 intro pos pins s σ H Q I h
 rw [hs]
 show wpAny _ _ (spliced ((false,eval e X.env)::backTo pos (starEach es X.env))) _ _ s
 refine Calls.spliced_cons (thn (ha pins s σ H _ I h) fun u s1 ⟨y,H1,I1,r1,q1⟩=>?_)
 exact thn (hr pos pins s1 σ H1 _ I1 q1) fun us s2 ⟨⟨ys,H2,I2,r2,q2⟩,l⟩=>⟨⟨y::ys,H2,I2,.cons r1 r2,q2⟩,l⟩
structure FnOkp (P:Program) (w:World) (K:W.Frag) (mg:Str→Option Value) (base:Heap) (CX:CXT) (k:Nat) (f:Addr) (fd:FuncData) (ps:List Str) (sp:Sp):Prop where
 len : ∀ vs H Q E,sp vs H Q E→vs.length=ps.length
 run : ∀ (A:Around) (outer:List Env) (s:Shared) (H:Hp) (args:Args) (us:List Value) (vs:List V) (Q:VK) (E:XK),0 < s.toks→Room k A→Env0 P w K mg base A outer s H→BindsTo s fd args (ps.zip us)→Vals vs us→sp vs H Q E →
  codeAny (model P w) A (.call (.ref f) args) (CR CX outer P w H s Q E) s
theorem run_fnp {pins : List (Addr × Obj)} {σ : St} {H : Hp} {s : Shared} {Q : VK} {us : List Value} {vs : List V} (F : FnOkp X.prog X.w X.K X.mg X.base CX k f fd ps sp) (hr : Room k X.A) (hb : Binds X.K fd ps ds) (hd : Vals dvs ds) (hx : Passes CX X E)
    (I : Inv X pins σ H s) (ht : 0 < s.toks) (r : Vals vs us) (h : sp (vs ++ dvs) H Q E) : wpAny (model X.prog X.w) X.A (call (.ref f) us) (EP X pins σ Q) X.xe s := by
  have r2 : Vals (vs ++ dvs) (us ++ ds) := r.append hd
  have hl : (us ++ ds).length = ps.length := by rw [← r2.length]; exact F.len _ _ _ _ h
  refine wpAny_call (codeAny_mono (F.run X.A X.stack s H ⟨us, []⟩ (us ++ ds) (vs ++ dvs) Q E ht hr I.env0 (hb s us I.kIn hl) r2 h) fun r s' hq => ?_)
  cases r with
  | error e => exact hx pins σ H s e s' I hq
  | ok fl =>
    cases fl with
    | ret u => exact I.after hq
    | next => exact False.elim hq
    | brk => exact False.elim hq
    | cont => exact False.elim hq
theorem pe_callp (F:FnOkp X.prog X.w X.K X.mg X.base CX k f fd ps sp) (hr:Room k X.A) (hg:Gl X x) (hm:X.mg x=some (.ref f)) (hk:W.keepIn X.K (.ref f)=true) (hb:Binds X.K fd ps ds) (hd:Vals dvs ds) (hx:Passes CX X E)
  (ha:PAp X (e::es) t) (hdb:(x == ("__debug__" : Str))=false:=by decide) (he:starEach (e::es) X.env=(false,eval e X.env)::starEach es X.env:=by rfl) (hpl:(backTo pos (starEach es X.env)).any (·.1)=false:=by rfl) :
  PE X (.Call (.Name x p) (e::es) [] pos) (tCall sp dvs E t):=by
 intro pins s σ H Q I h
 refine wpAny_Call_Name_kw (ld_glob I hg hm ?_ hdb)
 refine W.callWith_K (h₀:=X.base) I.ok.mod.kin hk (thn (ha pos pins s σ H _ I h) fun us s1 ⟨⟨vs,H1,I1,r,q⟩,l⟩=>⟨I1.kIn,?_⟩) he hpl
 exact run_fnp F hr hb hd hx I1 l r q
end
theorem toks_use {α:Type} {M:Model} {A:Around} {t:Sem α} {Q:α→Shared→Prop} {E:Value→Shared→Prop} {s:Shared} (h:wpAny M A t (fun a s'=>s.toks≤s'.toks→Q a s') E s):wpAny M A t Q E s:=wpAny_mono (any_toks h) (fun _ _ z=>z.1 z.2) fun _ _ z=>z.1
def PSsp (X:Cx) (st:List Stmt) (t:TS):Prop:=
 ∀ (pins:List (Addr × Obj)) (s:Shared) (σ:St) (H:Hp) (D:Ends),0 < s.toks→Inv X pins σ H s→t D σ H→wpAny (model X.prog X.w) X.A (execs st X.env) (SP X pins D) X.xe s
theorem fn_ofp {CX : CXT} {P : Program} {w : World} {K : W.Frag} {mg : Str → Option Value} {base : Heap} {k : Nat} {f : Addr} {name qual : Str} {params : Arguments} {body : List Stmt} {scope : Scope} {dV kV doc pm cdv ct oc : Value} {an od : Option Addr}
    {osl : Array (Option Value)} {N ps : List Str} {sp : Sp} (lk : K.lookup f = some ⟨oc, od, .func (W.fnOf name qual params body scope dV kV doc pm an cdv ct), osl⟩) (hcd : W.codeIn K cdv qual = true) (S : FnScope N ps scope)
    (len : ∀ vs H Q E, sp vs H Q E → vs.length = ps.length)
    (hbody : ∀ (A : Around) (outer : List Env) (s : Shared) (H : Hp) (vs : List V) (Q : VK) (E : XK), Room k (A.deeper (envOfC qual scope s.heap.objs.size f cdv)) → sp vs H Q E →
      ∃ t, PSsp (cxOf CX P w K mg base N qual scope f cdv A outer s H E) body t ∧ t { nx := fun _ H' => Q .non H', rt := Q } (start N vs) H) :
    FnOkp P w K mg base CX (k + 1) f (W.fnOf name qual params body scope dV kV doc pm an cdv ct) ps sp := by
  refine ⟨len, fun A outer s H args us vs Q E tk0 hr e0 hb r hsp => ?_⟩
  have hl := len _ _ _ _ hsp
  have KX : K.In s.heap := e0.mod.kin.keeps fun b o e => (e0.bs b o e).1
  have lim : s.heap.NoLimit := e0.mod.nolimit.keeps fun b o e => (e0.bs b o e).1
  have hkind : ∀ y ∈ ps.zip us, scope.names.lookup y.1 = some .local ∨ (scope.names.lookup y.1 = some .cell ∧ ((cellsFrom (s.heap.objs.size + 1) scope.names []).lookup y.1).isSome = true) := fun ⟨n, v⟩ hy => by
    rcases S.par n (List.of_mem_zip hy).1 with q | q
    · exact .inl q
    · exact .inr ⟨q, W.cellsFrom_some _ _ _ (.inl q)⟩
  refine codeAny_call_function hr.depth (KX _ _ lk) rfl S.co S.gen rfl (W.codeRec_of KX hcd) (hb _ _ _ _ ?_)
  refine toks_use (wpAny_newFunctionEnv_cells S.kind hkind fun env he s1 x le => ?_)
  subst he
  refine ⟨lim.keeps x.toInCall.keep, codeAny_func ?_⟩
  obtain ⟨t, ht, hq⟩ := hbody A outer s H vs Q E (hr.deeper _) hsp
  have I : Inv (cxOf CX P w K mg base N qual scope f cdv A outer s H E) [] (start N vs) H s1 := inv_start S hr.hd e0 hl r x
  refine wpAny_mono (ht [] s1 (start N vs) H _ (Nat.lt_of_lt_of_le tk0 le) I hq) (fun fl s' hs => ?_) fun e s' hs => hs
  have fin : ∀ {σ' : St} {H' : Hp} {v : V} {u : Value}, Inv (cxOf CX P w K mg base N qual scope f cdv A outer s H E) [] σ' H' s' → RelV v u → Q v H' → CE outer P w H s Q u s' :=
    fun {σ' H' v u} J rv q => ⟨v, H', J.os, J.bare, J.base, J.hok, rv, q⟩
  cases fl with
  | ret u =>
    obtain ⟨v, σ', H', J, rv, q⟩ := hs
    exact fin J rv q
  | next =>
    obtain ⟨σ', H', J, q⟩ := hs
    exact fin (v := V.non) (u := Value.none) J rfl q
  | brk =>
    obtain ⟨_, _, _, q⟩ := hs
    exact False.elim q
  | cont =>
    obtain ⟨_, _, _, q⟩ := hs
    exact False.elim q
section
variable {X : Cx} {e o : Expr} {te to : TE} {pos p1 p2 apos cpos : Pos} {st : Stmt} {rest : List Stmt} {t u : TS}
def PEq (X:Cx) (e:Expr) (t:TE):Prop:=
 ∀ (pins:List (Addr × Obj)) (s:Shared) (σ:St) (H:Hp) (Q:VK),0 < s.toks→Inv X pins σ H s→t σ H Q→wpAny (model X.prog X.w) X.A (eval e X.env) (EP X pins σ Q) X.xe s
def PSq (X:Cx) (st:Stmt) (t:TS):Prop:=
 ∀ (pins:List (Addr × Obj)) (s:Shared) (σ:St) (H:Hp) (D:Ends),0 < s.toks→Inv X pins σ H s→t D σ H→wpAny (model X.prog X.w) X.A (exec st X.env) (SP X pins D) X.xe s
theorem pssq_cons (h1 : PSq X st t) (h2 : PSs X rest u) : PSsp X (st :: rest) (tSeq t u) := by
  intro pins s σ H D l I h
  refine wpAny_execs_cons (thn (h1 pins s σ H { D with nx := u D } l I h) fun f s1 q => ?_)
  cases f with
  | next =>
    obtain ⟨σ', H', I', q⟩ := q
    exact h2 pins s1 σ' H' D I' q
  | ret v => exact q
  | brk => exact q
  | cont => exact q
theorem psq_set {i:Nat} {x:Str} {pos':Pos} (hN:X.N.Nodup) (hi:X.N[i]? = some x) (hx:Loc X.env.scope x) (he:PEq X e te) (hs:swapsWith e (some (.Name x pos')) pos.line X.env=pure false:=by rfl) (hf:X.fn x=true∨X.env.scope.names.lookup x=some .local:=by first | exact Or.inl rfl | exact Or.inr rfl) :
  PSq X (.Assign [.Name x pos'] e pos) (tAsg te (gName i)):=by
 intro pins s σ H D l I h
 refine wpAny_Assign_Name (thn (he pins s σ H _ l I h) fun v s1 ⟨y,H1,I1,r1,q1⟩=>?_) hs
 exact store_ok I1 hN hi hx r1 (fun s2 I2=>⟨_,H1,I2,q1⟩) hf
def wo (c:Nat) (a:List Nat):List Nat:=a.filter (· != c)
def tRep (c:Nat) (to:TE):TE:=fun σ H Q=>to σ H fun x H1=>∃ a,x = .str (T a)∧a.length≤1000∧Q (.str (T (wo c a))) H1
theorem rep_T {a:List Nat} {c:Nat} {y z:Str} (hy:y=⟨#[c]⟩) (hz:z=⟨#[]⟩):Txt.replace (T a) y z=T (wo c a):=by
 subst hy hz
 have h:=replace_strikes (T a) c
 generalize Txt.replace (T a) ⟨#[c]⟩ ⟨#[]⟩=r at h
 obtain ⟨⟨l⟩⟩:=r
 exact congrArg (fun l=>(⟨⟨l⟩⟩:Str)) h
theorem peq_rep {c:Nat} {y z:Str} {j1 j2:Nat} (hy:y=⟨#[c]⟩) (hz:z=⟨#[]⟩) (ho:PE X o to)
  (hbase:attributeBase o "replace" X.env (eval o X.env)=eval o X.env:=by rfl)
  (hfew:((backTo cpos (starEach [.Constant (.str y) j1 p1,.Constant (.str z) j2 p2] X.env)).all (fun x=>!x.1) && (backToKw cpos (keywordEach [] X.env)).all (fun x=>x.1.isSome)
   && decide ([Expr.Constant (.str y) j1 p1,.Constant (.str z) j2 p2].length+([]:List Keyword).length+(if ([]:List Keyword).isEmpty then 0 else 1) < 30))=true:=by rfl)
  (hline:(apos.endLine == cpos.line)=true:=by rfl) :
  PEq X (.Call (.Attribute o "replace" apos) [.Constant (.str y) j1 p1,.Constant (.str z) j2 p2] [] cpos) (tRep c to):=by
 intro pins s σ H Q l I h
 refine wpAny_Call_method_late hbase hfew hline rfl (toks_use (thn (ho pins s σ H _ I h) fun v s1 ⟨x,H1,I1,r1,a,ex,la,q1⟩ le=>?_))
 subst ex
 obtain ⟨tk,rfl⟩:=r1
 refine ⟨"str", "str.replace", PySem.F.plainAttrs_str,PySem.F.slot_str_replace,PySem.F.type_str_replace,typeIs_str _ _ _,(fun _ z=>nomatch z),?_⟩
 refine Calls.callWith_builtin rfl (Calls.evalArgs_plain ?_)
 refine (show wpAny _ _ (spliced ((false,eval (.Constant (.str y) j1 p1) X.env)::(false,eval (.Constant (.str z) j2 p2) X.env)::[])) _ _ s1 from Calls.spliced_cons (Calls.Constant_str (Calls.spliced_cons (Calls.Constant_str (Calls.spliced_nil ?_)))))
 have lt:0 < s1.toks:=Nat.lt_of_lt_of_le l le
 refine SC.replace (Nat.ne_of_gt lt) (Nat.succ_ne_zero _) (Nat.ne_of_lt (Nat.lt_succ_self _)) (by subst hy hz;exact beq_eq_false_iff_ne.mpr fun e=>absurd (congrArg (fun s:Str=>s.cps.size) e) (fun z=>Nat.noConfusion (show (1:Nat)=0 from z))) (by subst hz;show a.length+(a.length+1)*0≤16777216;omega) fun t' k=>?_
 rw [rep_T hy hz]
 exact ⟨.str (T (wo c a)),H1,I1.tok _,⟨_,rfl⟩,q1⟩
end
theorem PSsp.nox {X:Cx} {st:List Stmt} {t:TS} (h:PSsp X.nox st t):PSsp X st t:=fun pins s σ H D l I hw =>
 wpAny_mono (h pins s σ H D l (I.wish _) hw) (fun _ _ q=>q.unwish) fun _ _ z=>False.elim z
theorem Fun.okp {P:Program} {w:World} {K:W.Frag} {mg:Str→Option Value} {base:Heap} {x qual:Str} {st:Stmt} {f:Addr} {fd:FuncData} {N ps:List Str} {k:Nat} {sp:Sp} (F:Fun K x qual st f fd) (S:FnScope N ps (defScope st)) (len : ∀ vs H Q E,sp vs H Q E→vs.length=ps.length)
  (hbody : ∀ (cdv:Value) (A:Around) (outer:List Env) (s:Shared) (H:Hp) (vs:List V) (Q:VK) (E:XK),Room k (A.deeper (envOfC qual (defScope st) s.heap.objs.size f cdv))→sp vs H Q E →
   ∃ t,PSsp (cxOf CX0 P w K mg base N qual (defScope st) f cdv A outer s H E).nox (defBody st) t∧t { nx:=fun _ H'=>Q .non H',rt:=Q } (start N vs) H):FnOkp P w K mg base CX0 (k+1) f fd ps sp:=by
 obtain ⟨oc,od,kV,doc,pm,an,cdv,ct,osl,rfl,lk,hcd⟩:=F.ex
 refine fn_ofp lk hcd S len fun A outer s H vs Q E hr hsp=>?_
 obtain ⟨t,h,q⟩:=hbody cdv A outer s H vs Q E hr hsp
 exact ⟨t,h.nox,q⟩
def HasP (P:Program) (w:World) (K:W.Frag) (mg:Str→Option Value) (base:Heap) (x:Str) (k:Nat) (ps:List Str) (sp:Sp):Prop:=
 ∃ (f:Addr) (fd:FuncData),FnOkp P w K mg base CX0 k f fd ps sp∧mg x=some (.ref f)∧W.keepIn K (.ref f)=true∧Binds K fd ps []
theorem FnOkp.mono {P:Program} {w:World} {K:W.Frag} {mg:Str→Option Value} {base:Heap} {CX:CXT} {j k:Nat} {f:Addr} {fd:FuncData} {ps:List Str} {sp:Sp} (F:FnOkp P w K mg base CX j f fd ps sp) (h:j≤k) :
  FnOkp P w K mg base CX k f fd ps sp:=⟨F.len,fun A outer s H args us vs Q E l hr=>F.run A outer s H args us vs Q E l (hr.mono h)⟩
theorem pe_callHp {X:Cx} {x:Str} {k n:Nat} {ps:List Str} {sp:Sp} {p pos:Pos} {e:Expr} {es:List Expr} {t:TA} (F:HasP X.prog X.w X.K X.mg X.base x k ps sp) (hr:Room n X.A) (hg:Gl X x) (ha:PAp X (e::es) t) (hk:k≤n:=by decide)
  (hdb:(x == ("__debug__" : Str))=false:=by decide) (he:starEach (e::es) X.env=(false,eval e X.env)::starEach es X.env:=by rfl) (hpl:(backTo pos (starEach es X.env)).any (·.1)=false:=by rfl) :
  PE X (.Call (.Name x p) (e::es) [] pos) (tCall sp [] E0 t):=by
 obtain ⟨f,fd,G,hm,kp,hb⟩:=F
 exact pe_callp G (hr.mono hk) hg hm kp hb .nil pass0 ha hdb he hpl
def Itk (ks:List Str):It:=⟨fun i _=>i < ks.length,fun i H v H'=>H'=H ∧ ∃ z,ks[i]? = some z∧v = .str z,fun i _=>i=ks.length⟩
theorem dictAt_ent {P:Program} {w:World} {h:Heap} {d:Addr} {kvs:List (Str × Tok × Value)} {n:Nat} (ho:h.get? d=some { cls:=.type "dict", data:=.dict (kvs.map (dEnt w)).toArray n }) (nd:(kvs.map (·.1)).Nodup):h.DictAt (PySem.strKind P w) d (kvs.map fun e=>(e.1,e.2.2)) n:=by
 refine ⟨_,_,ho,⟨rfl,rfl,rfl⟩,rfl,?_,pairs_ent kvs,?_⟩
 ·intro e he
  obtain ⟨z,_,rfl⟩:=List.mem_map.mp (show e ∈ kvs.map (dEnt w) from (List.mem_toArray).mp he)
  exact ⟨z.1,by simp [PySem.strKind,Value.isStrOf,dEnt],rfl⟩
 ·rw [List.map_map];exact nd
theorem turn_keys {P:Program} {w:World} {K:PySem.W.Frag} {tg:Expr} {d it:Addr} {kvs:List (Str × Tok × Value)} {n:Nat} (lk:K.lookup d=some { cls:=.type "dict", data:=.dict (kvs.map (dEnt w)).toArray n }) (nd:(kvs.map (·.1)).Nodup) (hne:d≠it) :
  Turn P w K tg (Itk (kvs.map (·.1))) [it] it (fun i h=>h.IsKeyIter it d i kvs.length n) where
 mem:=by simp
 obj:=fun i h st b hb=>by
  have e:b=it:=by simpa using hb
  subst e
  obtain ⟨o,e,c,dd⟩:=st
  exact ⟨o,e,fun v z=>by rw [dd] at z;cases z⟩
 keep:=fun i h h' st k=>st.at fun o e=>k it (by simp) o e
 item:=by
  intro X hP hw hK hc i pins s σ H E I hf st hg
  subst hP hw hK
  obtain ⟨f0,f1,f2,f3,f4,f5⟩:=hf it (by simp)
  have W:=Walks.dictKeys (knd:=PySem.strKind X.prog X.w) (I.ok.hd hc) it d hne (kvs.map fun e=>(e.1,e.2.2)) n
  rw [List.length_map] at W
  have hi:i < kvs.length:=by have:i < (kvs.map (·.1)).length:=hg;rwa [List.length_map] at this
  refine W.item i s _ _ hi ⟨st,dictAt_ent (I.kIn d _ lk) nd⟩ fun v h' tk hv st' kk=>?_
  obtain ⟨k,x,hx,hkey⟩:=hv
  obtain ⟨u,rfl⟩:=isStrOf_shape (show Value.isStrOf k v=true from hkey)
  have I1:Inv X pins σ H { s with heap:=h',toks:=tk }:=I.turned (fun b o hb e=>kk b o (by simpa using hb) e) f0 f1 f3 f4 f5
  obtain ⟨o,e,c1,dd⟩:=id st'.1
  refine ⟨_,rfl,go_of (s:={ s with heap:=h',toks:=tk }) e c1 dd (by decide) ⟨.str k,H,I1,⟨u,rfl⟩,⟨rfl,k,?_,rfl⟩,st'.1,fun b hb=>(hf b hb).1⟩⟩
  rw [List.getElem?_map] at hx ⊢
  cases hj:kvs[i]? with
  | none=>rw [hj] at hx;cases hx
  | some z=>rw [hj] at hx;cases hx;rfl
 done:=by
  intro X hP hw hK hc i pins s σ H E I hf st hg
  subst hP hw hK
  obtain ⟨f0,f1,f2,f3,f4,f5⟩:=hf it (by simp)
  have W:=Walks.dictKeys (knd:=PySem.strKind X.prog X.w) (I.ok.hd hc) it d hne (kvs.map fun e=>(e.1,e.2.2)) n
  rw [List.length_map] at W
  have hi:i=kvs.length:=by have:i=(kvs.map (·.1)).length:=hg;rwa [List.length_map] at this
  subst hi
  exact W.done s _ _ ⟨st,dictAt_ent (I.kIn d _ lk) nd⟩ fun h' tk kk=>⟨rfl,I.turned (fun b o hb e=>kk b o (by simpa using hb) e) f0 f1 f3 f4 f5⟩
 self:=fun _ _ _ _ _ st h=>wpAny_pyIter_keyiter st h
section
variable {X : Cx} {tg : Expr}
def iKeys (w:World) (K:W.Frag) (tl:TE):TI:=fun σ H R=>tl σ H fun x H1=>∃ d ks,x = .ref d∧KDs w K d ks∧R (Itk ks) H1
theorem pi_keys {l:Expr} {tl:TE} (hl:PE X l tl):PI X tg l (iKeys X.w X.K tl):=by
 intro pins s σ H R I h
 refine thn (hl pins s σ H _ I h) fun v s1 ⟨x,H1,I1,r1,q1⟩=>?_
 obtain ⟨d,ks,e,⟨lo,kvs,n,lk,ek,nd,hz⟩,q⟩:=q1
 subst e ek
 cases r1
 have ho:=I1.kIn d _ lk
 have hne:d≠s1.heap.objs.size:=fun z=>Nat.lt_irrefl _ (z ▸ Heap.lt_size ho)
 refine wpAny_pyIter_dict (knd:=PySem.strKind X.prog X.w) lo (dictAt_ent ho nd) ?_
 rw [List.length_map]
 refine ⟨s1.heap.objs.size,[s1.heap.objs.size],_,_,H1,rfl,I1.kept (t':=s1.toks) fun b o e=>Heap.get?_push_of_some _ e,turn_keys lk nd hne,⟨_,Heap.get?_push_size _ rfl,rfl,rfl⟩,fun b hb=>?_,q⟩
 have e:b=s1.heap.objs.size:=by simpa using hb
 subst e
 exact I1.fpOk (Nat.le_refl _) (I1.hok.fresh (Nat.le_refl _))
end
section
variable {σ : St} {H : Hp} {Q : VK} {D : Ends} {K : W.Frag} {w : World}
def kForK (w:World) (K:PySem.W.Frag) (g:TG) (tb:TS) (D:Ends) (σ:St) (x:V) (H:Hp):Prop:=∃ d ks,x = .ref d∧KDs w K d ks ∧ ∃ W:Nat→Nat→St→Hp→Prop,(∃ m,W 0 m σ H) ∧ ∀ i m σ H,W i m σ H →
 ((Itk ks).stop i H∧D.nx σ H)∨((Itk ks).go i H ∧ ∃ N:St→Hp→Prop,(∀ σ' H',N σ' H' → ∃ m',m' < m∧W (i+1) m' σ' H') ∧ ∀ x H',(Itk ks).yld i H x H'→g x σ H' fun σ2 H2=>tb { D with nx:=N,ct:=N,bk:=D.nx } σ2 H2)
theorem r_forK {tl:TE} {g:TG} {tb:TS} (h:tl σ H (kForK w K g tb D σ)):tFor (iKeys w K tl) g tb D σ H:=h
theorem r_kForK {g:TG} {tb:TS} {d:Addr} {ks:List Str} (hk:KDs w K d ks) (Pv:Nat→St→Hp→Prop) (h0:Pv 0 σ H)
  (hs : ∀ i z σ H,ks[i]? = some z→Pv i σ H→g (.str z) σ H fun σ2 H2=>tb { D with nx:=Pv (i+1),ct:=Pv (i+1),bk:=D.nx } σ2 H2) (hd : ∀ σ H,Pv ks.length σ H→D.nx σ H):kForK w K g tb D σ (.ref d) H:=by
 refine ⟨d,ks,rfl,hk,fun i m σ H=>i+m=ks.length∧Pv i σ H,⟨ks.length,by omega,h0⟩,?_⟩
 rintro i m σ H ⟨hm,hp⟩
 rcases Nat.lt_or_ge i ks.length with h | h
 ·refine .inr ⟨h,Pv (i+1),fun σ' H' hp'=>⟨m - 1,by omega,by omega,hp'⟩,?_⟩
  rintro x H' ⟨rfl,z,hz,rfl⟩
  exact hs i z σ _ hz hp
 ·have e:i=ks.length:=by omega
  subst e
  exact .inl ⟨rfl,hd σ H hp⟩
end
section
variable {X : Cx} {e : Expr} {es : List Expr} {te : TE} {t : TA} {p pos p1 : Pos}
def PAq (X:Cx) (es:List Expr) (t:TA):Prop:=
 ∀ (pos:Pos) (pins:List (Addr × Obj)) (s:Shared) (σ:St) (H:Hp) (Q:List V→Hp→Prop),0 < s.toks→Inv X pins σ H s→t σ H Q→wpAny (model X.prog X.w) X.A (spliced (backTo pos (starEach es X.env))) (AP X pins σ Q) X.xe s
theorem paq_cons (ha:PEq X e te) (hr:PA X es t) (hs:starEach (e::es) X.env=(false,eval e X.env)::starEach es X.env:=by rfl):PAq X (e::es) (tCons te t):=by
 intro pos pins s σ H Q l I h
 rw [hs]
 show wpAny _ _ (spliced ((false,eval e X.env)::backTo pos (starEach es X.env))) _ _ s
 refine Calls.spliced_cons (thn (ha pins s σ H _ l I h) fun u s1 ⟨y,H1,I1,r1,q1⟩=>?_)
 exact thn (hr pos pins s1 σ H1 _ I1 q1) fun us s2 ⟨ys,H2,I2,r2,q2⟩=>⟨y::ys,H2,I2,.cons r1 r2,q2⟩
theorem pa_consT {l:List Nat} {y:Str} {j:Nat} (hy:y=T l) (hr:PAq X es t) (hs:starEach (.Constant (.str y) j p1::es) X.env=(false,eval (.Constant (.str y) j p1) X.env)::starEach es X.env:=by rfl):PA X (.Constant (.str y) j p1::es) (tCons (tC (.str (T l))) t):=by
 intro pos pins s σ H Q I h
 rw [hs]
 show wpAny _ _ (spliced ((false,eval (.Constant (.str y) j p1) X.env)::backTo pos (starEach es X.env))) _ _ s
 refine Calls.spliced_cons (Calls.Constant_str ?_)
 exact thn (hr pos pins _ σ H _ (Nat.succ_pos _) (I.tok _) h) fun us s2 ⟨ys,H2,I2,r2,q2⟩=>⟨.str (T l)::ys,H2,I2,.cons ⟨s.toks,by rw [hy]⟩ r2,q2⟩
theorem peq_callH {x:Str} {k n:Nat} {ps:List Str} {sp:Sp} (F:Has X.prog X.w X.K X.mg X.base x k ps sp) (hr:Room n X.A) (hg:Gl X x) (ha:PAq X (e::es) t) (hk:k≤n:=by decide)
  (hdb:(x == ("__debug__" : Str))=false:=by decide) (he:starEach (e::es) X.env=(false,eval e X.env)::starEach es X.env:=by rfl) (hpl:(backTo pos (starEach es X.env)).any (·.1)=false:=by rfl) :
  PEq X (.Call (.Name x p) (e::es) [] pos) (tCall sp [] E0 t):=by
 obtain ⟨f,fd,G,hm,kp,hb⟩:=F
 intro pins s σ H Q l I h
 refine wpAny_Call_Name_kw (ld_glob I hg hm ?_ hdb)
 refine W.callWith_K (h₀:=X.base) I.ok.mod.kin kp (thn (ha pos pins s σ H _ l I h) fun us s1 ⟨vs,H1,I1,r,q⟩=>⟨I1.kIn,?_⟩) he hpl
 exact run_fn G (hr.mono hk) hb .nil pass0 I1 r q
end
def Df (K:W.Frag) (x:Str) (st:Stmt) (f:Addr):Prop:=∃ (oc:Value) (od:Option Addr) (kV dc pm:Value) (an:Option Addr) (cd ct:Value) (sl:Array (Option Value)),W.nsIn K mainGlobals x=some (some (.ref f)) ∧
 K.lookup f=some ⟨oc,od,.func (W.fnOf x x (defArgs st) (defBody st) (defScope st) .none kV dc pm an cd ct),sl⟩∧W.codeIn K cd x=true∧W.keepIn K (.ref f)=true
def Dm (K:W.Frag) (q m:Str) (st:Stmt) (dV:Value) (C f:Addr):Prop:=∃ (oc:Value) (od:Option Addr) (kV dc pm:Value) (an:Option Addr) (cd ct:Value) (sl:Array (Option Value)),W.findIn K (.ref C) m=some (some (.ref f)) ∧
 K.lookup f=some ⟨oc,od,.func (W.fnOf m q (defArgs st) (defBody st) (defScope st) dV kV dc pm an cd ct),sl⟩∧W.codeIn K cd q=true∧W.keepIn K (.ref f)=true∧W.isFn K (.ref f)=true
section
variable {K : W.Frag} {x q m : Str} {st : Stmt} {f C t : Addr} {oc dV : Value} {od : Option Addr} {kV dc pm : Value} {an : Option Addr} {cd ct : Value} {sl : Array (Option Value)}
theorem df_mk (a:W.nsIn K mainGlobals x=some (some (.ref f))) (l:K.lookup f=some ⟨oc,od,.func (W.fnOf x x (defArgs st) (defBody st) (defScope st) .none kV dc pm an cd ct),sl⟩) (c:W.codeIn K cd x=true) (k:W.keepIn K (.ref f)=true):Df K x st f:=⟨oc,od,kV,dc,pm,an,cd,ct,sl,a,l,c,k⟩
theorem dm_mk (a:W.findIn K (.ref C) m=some (some (.ref f))) (l:K.lookup f=some ⟨oc,od,.func (W.fnOf m q (defArgs st) (defBody st) (defScope st) dV kV dc pm an cd ct),sl⟩) (c:W.codeIn K cd q=true) (k:W.keepIn K (.ref f)=true) (n:W.isFn K (.ref f)=true):Dm K q m st dV C f:=⟨oc,od,kV,dc,pm,an,cd,ct,sl,a,l,c,k,n⟩
variable {h : Heap} {mg : Str → Option Value} {P : Program} {w : World} {base : Heap} {k : Nat} {ps : List Str} {sp : Sp} {CX : CXT}
theorem df_has (X:K.In h) (G:h.Ns mainGlobals mg) (d:Df K x st f) (ok : ∀ fd,Fun K x x st f fd→FnOk P w K mg base CX0 k f fd ps sp)
  (hb : ∀ (kV doc pm:Value) (an:Option Addr) (cdv ct:Value) (us:List Value),us.length=ps.length→bindArgs (W.fnOf x x (defArgs st) (defBody st) (defScope st) .none kV doc pm an cdv ct) ⟨us,[]⟩=pure (ps.zip us)):Has P w K mg base x k ps sp:=by
 obtain ⟨_,_,_,_,_,_,_,_,_,a,l,c,k'⟩:=d
 have F:=fun_mk l c k'
 exact ⟨f,_,ok _ F,W.mg_of X G a,k',F.binds hb⟩
theorem df_hasP (X:K.In h) (G:h.Ns mainGlobals mg) (d:Df K x st f) (ok : ∀ fd,Fun K x x st f fd→FnOkp P w K mg base CX0 k f fd ps sp)
  (hb : ∀ (kV doc pm:Value) (an:Option Addr) (cdv ct:Value) (us:List Value),us.length=ps.length→bindArgs (W.fnOf x x (defArgs st) (defBody st) (defScope st) .none kV doc pm an cdv ct) ⟨us,[]⟩=pure (ps.zip us)):HasP P w K mg base x k ps sp:=by
 obtain ⟨_,_,_,_,_,_,_,_,_,a,l,c,k'⟩:=d
 have F:=fun_mk l c k'
 exact ⟨f,_,ok _ F,W.mg_of X G a,k',F.binds hb⟩
def Gd (P:Program) (w:World) (K:W.Frag) (mg:Str→Option Value) (base:Heap) (CX:CXT) (f:Addr) (k:Nat) (ps:List Str) (sp:Sp):Prop:=∃ fd,FnOk P w K mg base CX k f fd ps sp∧W.keepIn K (.ref f)=true∧W.isFn K (.ref f)=true∧Binds K fd ps []
theorem dm_gd (d:Dm K q m st .none C f) (ok : ∀ fd,FunD K m q st f fd→FnOk P w K mg base CX k f fd ps sp)
  (hb : ∀ (kV dc pm:Value) (an:Option Addr) (cd ct:Value) (us:List Value),us.length=ps.length→bindArgs (W.fnOf m q (defArgs st) (defBody st) (defScope st) .none kV dc pm an cd ct) ⟨us,[]⟩=pure (ps.zip us)):Gd P w K mg base CX f k ps sp:=by
 obtain ⟨_,_,_,_,_,_,_,_,_,a,l,c,k',n⟩:=d
 exact ⟨_,ok _ (funD_mk l c k'),k',n,.all (hb _ _ _ _ _ _)⟩
theorem dm_gdD {oc':Value} {od':Option Addr} {it:Array Value} {n':Nat} {osl:Array (Option Value)} (d:Dm K q m st (.ref t) C f) (hl:K.lookup t=some ⟨oc',od',.seq it n',osl⟩) (ok : ∀ fd,FunD K m q st f fd→FnOk P w K mg base CX k f fd ps sp)
  (hb : ∀ (kV dc pm:Value) (an:Option Addr) (cd ct:Value) (us:List Value),us.length=ps.length → ∃ k,bindArgs (W.fnOf m q (defArgs st) (defBody st) (defScope st) (.ref t) kV dc pm an cd ct) ⟨us,[]⟩=seqItems? (.ref t) >>= k∧k (some it)=pure (ps.zip us)):Gd P w K mg base CX f k ps sp:=by
 obtain ⟨_,_,_,_,_,_,_,_,_,a,l,c,k',n⟩:=d
 exact ⟨_,ok _ (funD_mk l c k'),k',n,binds_dflt hl rfl (hb _ _ _ _ _ _)⟩
theorem gd_M (g:Gd P w K mg base CX f k ps sp) (a:W.findIn K (.ref C) m=some (some (.ref f))):HasM P w K mg base CX C m k ps sp:=let ⟨fd,o,kp,fn,b⟩:=g;⟨f,fd,o,⟨a,fn,kp⟩,b⟩
theorem gd_I (g:Gd P w K mg base CX f k ps sp) (i1:W.makesIn K C=true) (i2:W.findIn K (.ref C) "__init__" = some (some (.ref f))) (i4:W.keepIn K (.ref C)=true):HasI P w K mg base CX C k ps sp:=let ⟨fd,o,kp,fn,b⟩:=g;⟨f,fd,o,⟨i1,i2,fn,i4⟩,b⟩
theorem gd_C (g:Gd P w K mg base CX f k ps sp) (c1:W.specialIn K (.ref C) "__getattribute__" = some (some (.builtin "type.__getattribute__"))) (c2:W.readsIn K C (.type "type")=true) (c3:W.findCls K (.ref C) (.type "type") m=some (.val (.ref f))):HasC P w K mg base CX C m k ps sp:=let ⟨fd,o,kp,fn,b⟩:=g;⟨f,fd,o,⟨c1,c2,c3,kp⟩,b⟩
end
end L2
set_option maxHeartbeats 4000000
namespace Pw
open PySem L2
def qQQ(_:Prop):=Unit
def qQX(T:Prop):Prop:=T
def qQZ{T:Prop}(_:qQQ T)(_:T):Prop:=T
theorem qQK{T:Prop}{x:qQQ T}{h:T}:qQZ x h:=h
theorem qQV{T:Prop}(h:qQQ T→qQX T):T:=h ()
theorem qQW{T:Prop}{x:qQQ T}{h:T}(_:qQZ x h):qQX T:=h
local macro_rules|`(tactic|classical $t)=>`(tactic|(refine qQV ?_;intro x;simp only[↓qQW (by exact qQK:qQZ x (by $t))]))
seal PySem.Sem.wp
def top (i:Nat):Stmt:=PySem.Challenge.pw_padwright_k54_forms_shown.main.body.getD i (.Pass ⟨0,0,0,0⟩)
abbrev s_figures_of:Stmt:=top 10
theorem sc_figures_of:FnScope ["number", "base", "text", "left"] ["number", "base"] (defScope s_figures_of):=⟨rfl,rfl,rfl,by decide +kernel,rfl,by decide +kernel,by decide +kernel⟩
abbrev s_number_of:Stmt:=top 11
theorem sc_number_of:FnScope ["text", "base", "number", "sign", "worth"] ["text", "base"] (defScope s_number_of):=⟨rfl,rfl,rfl,by decide +kernel,rfl,by decide +kernel,by decide +kernel⟩
abbrev s_grouped:Stmt:=top 13
theorem sc_grouped:FnScope ["text", "size", "mark"] ["text", "size", "mark"] (defScope s_grouped):=⟨rfl,rfl,rfl,by decide +kernel,rfl,by decide +kernel,by decide +kernel⟩
abbrev s_parts_of:Stmt:=top 14
theorem sc_parts_of:FnScope ["text", "size", "between", "parts", "end"] ["text", "size", "between"] (defScope s_parts_of):=⟨rfl,rfl,rfl,by decide +kernel,rfl,by decide +kernel,by decide +kernel⟩
abbrev s_body_of:Stmt:=top 16
theorem sc_body_of:FnScope ["number", "base", "places", "point", "size", "mark", "text", "cut", "whole"] ["number", "base", "places", "point", "size", "mark"] (defScope s_body_of):=⟨rfl,rfl,rfl,by decide +kernel,rfl,by decide +kernel,by decide +kernel⟩
abbrev s_ends_of:Stmt:=top 19
theorem sc_ends_of:FnScope ["style", "below"] ["style", "below"] (defScope s_ends_of):=⟨rfl,rfl,rfl,by decide +kernel,rfl,by decide +kernel,by decide +kernel⟩
abbrev s_signed:Stmt:=top 20
theorem sc_signed:FnScope ["body", "style", "below", "ends"] ["body", "style", "below"] (defScope s_signed):=⟨rfl,rfl,rfl,by decide +kernel,rfl,by decide +kernel,by decide +kernel⟩
abbrev s_Form___init__:Stmt:=inClass (top 22) 0
theorem sc_Form___init__:FnScope ["self", "width", "fill", "side", "strict"] ["self", "width", "fill", "side", "strict"] (defScope s_Form___init__):=⟨rfl,rfl,rfl,by decide +kernel,rfl,by decide +kernel,by decide +kernel⟩
abbrev s_Form_is_too_wide:Stmt:=inClass (top 22) 3
theorem sc_Form_is_too_wide:FnScope ["self", "core"] ["self", "core"] (defScope s_Form_is_too_wide):=⟨rfl,rfl,rfl,by decide +kernel,rfl,by decide +kernel,by decide +kernel⟩
abbrev s_Form_puts_some:Stmt:=inClass (top 22) 4
theorem sc_Form_puts_some:FnScope ["self"] ["self"] (defScope s_Form_puts_some):=⟨rfl,rfl,rfl,by decide +kernel,rfl,by decide +kernel,by decide +kernel⟩
abbrev s_is_whole:Stmt:=top 24
theorem sc_is_whole:FnScope ["thing"] ["thing"] (defScope s_is_whole):=⟨rfl,rfl,rfl,by decide +kernel,rfl,by decide +kernel,by decide +kernel⟩
abbrev s_power_of:Stmt:=top 25
theorem sc_power_of:FnScope ["base", "times", "power", "turn"] ["base", "times"] (defScope s_power_of):=⟨rfl,rfl,rfl,by decide +kernel,rfl,by decide +kernel,by decide +kernel⟩
abbrev s_common_divisor:Stmt:=top 26
theorem sc_common_divisor:FnScope ["one", "other", "greater", "lesser", "rest"] ["one", "other"] (defScope s_common_divisor):=⟨rfl,rfl,rfl,by decide +kernel,rfl,by decide +kernel,by decide +kernel⟩
abbrev s_is_fraction:Stmt:=top 28
theorem sc_is_fraction:FnScope ["thing"] ["thing"] (defScope s_is_fraction):=⟨rfl,rfl,rfl,by decide +kernel,rfl,by decide +kernel,by decide +kernel⟩
abbrev s_gridded:Stmt:=top 30
theorem sc_gridded:FnScope ["value", "base", "places", "way", "top", "bottom", "below", "rest"] ["value", "base", "places", "way"] (defScope s_gridded):=⟨rfl,rfl,rfl,by decide +kernel,rfl,by decide +kernel,by decide +kernel⟩
abbrev s_goes_up:Stmt:=top 31
theorem sc_goes_up:FnScope ["below", "rest", "bottom", "way"] ["below", "rest", "bottom", "way"] (defScope s_goes_up):=⟨rfl,rfl,rfl,by decide +kernel,rfl,by decide +kernel,by decide +kernel⟩
abbrev s_NumberForm___init__:Stmt:=inClass (top 33) 0
theorem sc_NumberForm___init__:FnScope ["self", "figures", "places", "base", "sign", "size", "mark", "point", "way", "width", "fill", "side", "strict"] ["self", "figures", "places", "base", "sign", "size", "mark", "point", "way", "width", "fill", "side", "strict"] (defScope s_NumberForm___init__):=⟨rfl,rfl,rfl,by decide +kernel,rfl,by decide +kernel,by decide +kernel⟩
abbrev s_NumberForm_core:Stmt:=inClass (top 33) 1
theorem sc_NumberForm_core:FnScope ["self", "value", "k", "body"] ["self", "value"] (defScope s_NumberForm_core):=⟨rfl,rfl,rfl,by decide +kernel,rfl,by decide +kernel,by decide +kernel⟩
abbrev s_NumberForm_shortest_core:Stmt:=inClass (top 33) 4
theorem sc_NumberForm_shortest_core:FnScope ["self"] ["self"] (defScope s_NumberForm_shortest_core):=⟨rfl,rfl,rfl,by decide +kernel,rfl,by decide +kernel,by decide +kernel⟩
abbrev s_NumberForm_is_too_great:Stmt:=inClass (top 33) 6
theorem sc_NumberForm_is_too_great:FnScope ["self", "number"] ["self", "number"] (defScope s_NumberForm_is_too_great):=⟨rfl,rfl,rfl,by decide +kernel,rfl,by decide +kernel,by decide +kernel⟩
abbrev s_is_text:Stmt:=top 36
theorem sc_is_text:FnScope ["thing"] ["thing"] (defScope s_is_text):=⟨rfl,rfl,rfl,by decide +kernel,rfl,by decide +kernel,by decide +kernel⟩
abbrev s_WordForm___init__:Stmt:=inClass (top 38) 0
theorem sc_WordForm___init__:FnScope ["self", "signs", "least", "most", "width", "fill", "side", "strict"] ["self", "signs", "least", "most", "width", "fill", "side", "strict"] (defScope s_WordForm___init__):=⟨rfl,rfl,rfl,by decide +kernel,rfl,by decide +kernel,by decide +kernel⟩
abbrev s_WordForm_shortest_core:Stmt:=inClass (top 38) 4
theorem sc_WordForm_shortest_core:FnScope ["self"] ["self"] (defScope s_WordForm_shortest_core):=⟨rfl,rfl,rfl,by decide +kernel,rfl,by decide +kernel,by decide +kernel⟩
abbrev s_ChoiceForm___init__:Stmt:=inClass (top 39) 0
theorem sc_ChoiceForm___init__:FnScope ["self", "names", "width", "fill", "side", "strict"] ["self", "names", "width", "fill", "side", "strict"] (defScope s_ChoiceForm___init__):=⟨rfl,rfl,rfl,by decide +kernel,rfl,by decide +kernel,by decide +kernel⟩
abbrev s_ChoiceForm_shortest_core:Stmt:=inClass (top 39) 4
theorem sc_ChoiceForm_shortest_core:FnScope ["self"] ["self"] (defScope s_ChoiceForm_shortest_core):=⟨rfl,rfl,rfl,by decide +kernel,rfl,by decide +kernel,by decide +kernel⟩
abbrev s_show_form:Stmt:=top 41
theorem sc_show_form:FnScope ["form", "words"] ["form"] (defScope s_show_form):=⟨rfl,rfl,rfl,by decide +kernel,rfl,by decide +kernel,by decide +kernel⟩
abbrev s_number_words:Stmt:=top 42
theorem sc_number_words:FnScope ["form", "words"] ["form"] (defScope s_number_words):=⟨rfl,rfl,rfl,by decide +kernel,rfl,by decide +kernel,by decide +kernel⟩
abbrev s_word_words:Stmt:=top 43
theorem sc_word_words:FnScope ["form", "words"] ["form"] (defScope s_word_words):=⟨rfl,rfl,rfl,by decide +kernel,rfl,by decide +kernel,by decide +kernel⟩
abbrev s_choice_words:Stmt:=top 44
theorem sc_choice_words:FnScope ["form"] ["form"] (defScope s_choice_words):=⟨rfl,rfl,rfl,by decide +kernel,rfl,by decide +kernel,by decide +kernel⟩
abbrev s_last_words:Stmt:=top 45
theorem sc_last_words:FnScope ["form", "side", "words"] ["form", "side"] (defScope s_last_words):=⟨rfl,rfl,rfl,by decide +kernel,rfl,by decide +kernel,by decide +kernel⟩
abbrev s_clause:Stmt:=top 46
theorem sc_clause:FnScope ["name", "word", "untold"] ["name", "word", "untold"] (defScope s_clause):=⟨rfl,rfl,rfl,by decide +kernel,rfl,by decide +kernel,by decide +kernel⟩
abbrev s_sign_word:Stmt:=top 47
theorem sc_sign_word:FnScope ["sign"] ["sign"] (defScope s_sign_word):=⟨rfl,rfl,rfl,by decide +kernel,rfl,by decide +kernel,by decide +kernel⟩
abbrev s_signs_word:Stmt:=top 48
theorem sc_signs_word:FnScope ["signs", "name"] ["signs"] (defScope s_signs_word):=⟨rfl,rfl,rfl,by decide +kernel,rfl,by decide +kernel,by decide +kernel⟩
abbrev s_Words___init__:Stmt:=inClass (top 52) 0
theorem sc_Words___init__:FnScope ["self", "words"] ["self", "words"] (defScope s_Words___init__):=⟨rfl,rfl,rfl,by decide +kernel,rfl,by decide +kernel,by decide +kernel⟩
abbrev s_Words_peek:Stmt:=inClass (top 52) 1
theorem sc_Words_peek:FnScope ["self"] ["self"] (defScope s_Words_peek):=⟨rfl,rfl,rfl,by decide +kernel,rfl,by decide +kernel,by decide +kernel⟩
abbrev s_Words_go_past:Stmt:=inClass (top 52) 2
theorem sc_Words_go_past:FnScope ["self", "can_stand"] ["self", "can_stand"] (defScope s_Words_go_past):=⟨rfl,rfl,rfl,by decide +kernel,rfl,by decide +kernel,by decide +kernel⟩
abbrev s_Words_has_clause:Stmt:=inClass (top 52) 3
theorem sc_Words_has_clause:FnScope ["self", "word"] ["self", "word"] (defScope s_Words_has_clause):=⟨rfl,rfl,rfl,by decide +kernel,rfl,by decide +kernel,by decide +kernel⟩
abbrev s_Words_take_number:Stmt:=inClass (top 52) 4
theorem sc_Words_take_number:FnScope ["self", "least", "most", "number"] ["self", "least", "most"] (defScope s_Words_take_number):=⟨rfl,rfl,rfl,by decide +kernel,rfl,by decide +kernel,by decide +kernel⟩
abbrev s_Words_take_sign:Stmt:=inClass (top 52) 5
theorem sc_Words_take_sign:FnScope ["self", "word"] ["self"] (defScope s_Words_take_sign):=⟨rfl,rfl,rfl,by decide +kernel,rfl,by decide +kernel,by decide +kernel⟩
abbrev s_Words_take_one_of:Stmt:=inClass (top 52) 6
theorem sc_Words_take_one_of:FnScope ["self", "choices", "word"] ["self", "choices"] (defScope s_Words_take_one_of):=⟨rfl,rfl,rfl,by decide +kernel,rfl,by decide +kernel,by decide +kernel⟩
abbrev s_Words_take_signs:Stmt:=inClass (top 52) 7
theorem sc_Words_take_signs:FnScope ["self", "signs"] ["self"] (defScope s_Words_take_signs):=⟨rfl,rfl,rfl,by decide +kernel,rfl,by decide +kernel,by decide +kernel⟩
abbrev s_Words_take_name:Stmt:=inClass (top 52) 8
theorem sc_Words_take_name:FnScope ["self", "names", "word"] ["self", "names"] (defScope s_Words_take_name):=⟨rfl,rfl,rfl,by decide +kernel,rfl,by decide +kernel,by decide +kernel⟩
abbrev s_read_form:Stmt:=top 53
theorem sc_read_form:FnScope ["text", "words", "form"] ["text"] (defScope s_read_form):=⟨rfl,rfl,rfl,by decide +kernel,rfl,by decide +kernel,by decide +kernel⟩
abbrev s_read_words:Stmt:=top 54
theorem sc_read_words:FnScope ["words", "kind"] ["words"] (defScope s_read_words):=⟨rfl,rfl,rfl,by decide +kernel,rfl,by decide +kernel,by decide +kernel⟩
abbrev s_read_number_form:Stmt:=top 55
theorem sc_read_number_form:FnScope ["words", "figures", "places", "base", "sign", "groups", "point", "way", "last"] ["words"] (defScope s_read_number_form):=⟨rfl,rfl,rfl,by decide +kernel,rfl,by decide +kernel,by decide +kernel⟩
abbrev s_read_groups:Stmt:=top 56
theorem sc_read_groups:FnScope ["words", "size"] ["words"] (defScope s_read_groups):=⟨rfl,rfl,rfl,by decide +kernel,rfl,by decide +kernel,by decide +kernel⟩
abbrev s_read_word_form:Stmt:=top 57
theorem sc_read_word_form:FnScope ["words", "signs", "least", "most", "last"] ["words"] (defScope s_read_word_form):=⟨rfl,rfl,rfl,by decide +kernel,rfl,by decide +kernel,by decide +kernel⟩
abbrev s_read_choice_form:Stmt:=top 58
theorem sc_read_choice_form:FnScope ["words", "wanted", "names", "turn", "last"] ["words"] (defScope s_read_choice_form):=⟨rfl,rfl,rfl,by decide +kernel,rfl,by decide +kernel,by decide +kernel⟩
abbrev s_read_last:Stmt:=top 59
theorem sc_read_last:FnScope ["words", "sides", "side", "width", "fill"] ["words", "sides", "side"] (defScope s_read_last):=⟨rfl,rfl,rfl,by decide +kernel,rfl,by decide +kernel,by decide +kernel⟩
abbrev s_told_number:Stmt:=top 60
theorem sc_told_number:FnScope ["word", "number"] ["word"] (defScope s_told_number):=⟨rfl,rfl,rfl,by decide +kernel,rfl,by decide +kernel,by decide +kernel⟩
abbrev s_told_signs:Stmt:=top 61
theorem sc_told_signs:FnScope ["word", "signs"] ["word"] (defScope s_told_signs):=⟨rfl,rfl,rfl,by decide +kernel,rfl,by decide +kernel,by decide +kernel⟩
abbrev s_is_rising:Stmt:=top 62
theorem sc_is_rising:FnScope ["signs"] ["signs"] (defScope s_is_rising):=⟨rfl,rfl,rfl,by decide +kernel,rfl,by decide +kernel,by decide +kernel⟩
abbrev s_law_cell_at:Stmt:=top 64
theorem sc_law_cell_at:FnScope ["_law_script", "_law_k"] ["_law_script", "_law_k"] (defScope s_law_cell_at):=⟨rfl,rfl,rfl,by decide +kernel,rfl,by decide +kernel,by decide +kernel⟩
abbrev s_law_whole:Stmt:=top 65
theorem sc_law_whole:FnScope ["_law_thing"] ["_law_thing"] (defScope s_law_whole):=⟨rfl,rfl,rfl,by decide +kernel,rfl,by decide +kernel,by decide +kernel⟩
abbrev s_law_pick:Stmt:=top 66
theorem sc_law_pick:FnScope ["_law_cell", "_law_salt", "_law_many", "_law_one", "_law_two"] ["_law_cell", "_law_salt", "_law_many"] (defScope s_law_pick):=⟨rfl,rfl,rfl,by decide +kernel,rfl,by decide +kernel,by decide +kernel⟩
abbrev s_law_all_signs:Stmt:=top 67
theorem sc_law_all_signs:FnScope [] [] (defScope s_law_all_signs):=⟨rfl,rfl,rfl,by decide +kernel,rfl,by decide +kernel,by decide +kernel⟩
abbrev s_law_drawn_sign:Stmt:=top 68
theorem sc_law_drawn_sign:FnScope ["_law_cell", "_law_salt", "_law_some"] ["_law_cell", "_law_salt"] (defScope s_law_drawn_sign):=⟨rfl,rfl,rfl,by decide +kernel,rfl,by decide +kernel,by decide +kernel⟩
abbrev s_law_number_spec:Stmt:=top 69
theorem sc_law_number_spec:FnScope ["_law_cell", "_law_other", "_law_small", "_law_figures", "_law_places", "_law_base", "_law_sign", "_law_size", "_law_way", "_law_signs", "_law_widths", "_law_width", "_law_side", "_law_strict"] ["_law_cell", "_law_other", "_law_small"] (defScope s_law_number_spec):=⟨rfl,rfl,rfl,by decide +kernel,rfl,by decide +kernel,by decide +kernel⟩
abbrev s_law_word_spec:Stmt:=top 70
theorem sc_law_word_spec:FnScope ["_law_cell", "_law_other", "_law_small", "_law_start", "_law_step", "_law_signs", "_law_least", "_law_most", "_law_fill", "_law_width", "_law_side"] ["_law_cell", "_law_other", "_law_small"] (defScope s_law_word_spec):=⟨rfl,rfl,rfl,by decide +kernel,rfl,by decide +kernel,by decide +kernel⟩
abbrev s_law_near_names:Stmt:=top 71
theorem sc_law_near_names:FnScope ["_law_cell", "_law_many", "_law_signs", "_law_base", "_law_way", "_law_at", "_law_size", "_law_step", "_law_found", "_law_k", "_law_sign", "_law_turn"] ["_law_cell", "_law_many"] (defScope s_law_near_names):=⟨rfl,rfl,rfl,by decide +kernel,rfl,by decide +kernel,by decide +kernel⟩
abbrev s_law_choice_spec:Stmt:=top 72
theorem sc_law_choice_spec:FnScope ["_law_cell", "_law_other", "_law_small", "_law_names", "_law_fill", "_law_width", "_law_side"] ["_law_cell", "_law_other", "_law_small"] (defScope s_law_choice_spec):=⟨rfl,rfl,rfl,by decide +kernel,rfl,by decide +kernel,by decide +kernel⟩
abbrev s_law_shortest:Stmt:=top 73
theorem sc_law_shortest:FnScope ["_law_spec"] ["_law_spec"] (defScope s_law_shortest):=⟨rfl,rfl,rfl,by decide +kernel,rfl,by decide +kernel,by decide +kernel⟩
abbrev s_law_sets:Stmt:=top 74
theorem sc_law_sets:FnScope ["_law_lower"] [] (defScope s_law_sets):=⟨rfl,rfl,rfl,by decide +kernel,rfl,by decide +kernel,by decide +kernel⟩
abbrev s_law_any_spec:Stmt:=top 75
theorem sc_law_any_spec:FnScope ["_law_cell", "_law_other", "_law_sort", "_law_spec", "_law_signs"] ["_law_cell", "_law_other", "_law_sort"] (defScope s_law_any_spec):=⟨rfl,rfl,rfl,by decide +kernel,rfl,by decide +kernel,by decide +kernel⟩
abbrev s_law_sign_word:Stmt:=top 76
theorem sc_law_sign_word:FnScope ["_law_sign"] ["_law_sign"] (defScope s_law_sign_word):=⟨rfl,rfl,rfl,by decide +kernel,rfl,by decide +kernel,by decide +kernel⟩
abbrev s_law_signs_word:Stmt:=top 77
theorem sc_law_signs_word:FnScope ["_law_signs", "_law_bits", "_law_rest", "_law_name", "_law_some"] ["_law_signs", "_law_bits"] (defScope s_law_signs_word):=⟨rfl,rfl,rfl,by decide +kernel,rfl,by decide +kernel,by decide +kernel⟩
abbrev s_law_first_rows:Stmt:=top 78
theorem sc_law_first_rows:FnScope ["_law_spec", "_law_bits", "_law_rows", "_law_figures", "_law_places", "_law_base", "_law_sign", "_law_size", "_law_mark", "_law_point", "_law_way"] ["_law_spec", "_law_bits"] (defScope s_law_first_rows):=⟨rfl,rfl,rfl,by decide +kernel,rfl,by decide +kernel,by decide +kernel⟩
abbrev s_law_word_rows:Stmt:=top 79
theorem sc_law_word_rows:FnScope ["_law_spec", "_law_bits", "_law_rows", "_law_width", "_law_fill", "_law_side", "_law_strict", "_law_kept"] ["_law_spec", "_law_bits"] (defScope s_law_word_rows):=⟨rfl,rfl,rfl,by decide +kernel,rfl,by decide +kernel,by decide +kernel⟩
abbrev s_law_form_text:Stmt:=top 80
theorem sc_law_form_text:FnScope ["_law_spec", "_law_bits"] ["_law_spec", "_law_bits"] (defScope s_law_form_text):=⟨rfl,rfl,rfl,by decide +kernel,rfl,by decide +kernel,by decide +kernel⟩
abbrev s_law_text_is:Stmt:=top 81
theorem sc_law_text_is:FnScope ["_law_found", "_law_due"] ["_law_found", "_law_due"] (defScope s_law_text_is):=⟨rfl,rfl,rfl,by decide +kernel,rfl,by decide +kernel,by decide +kernel⟩
abbrev s_law_tail_is:Stmt:=top 82
theorem sc_law_tail_is:FnScope ["_law_form", "_law_spec"] ["_law_form", "_law_spec"] (defScope s_law_tail_is):=⟨rfl,rfl,rfl,by decide +kernel,rfl,by decide +kernel,by decide +kernel⟩
abbrev s_law_class_is:Stmt:=top 83
theorem sc_law_class_is:FnScope ["_law_form", "_law_spec", "_law_kinds"] ["_law_form", "_law_spec"] (defScope s_law_class_is):=⟨rfl,rfl,rfl,by decide +kernel,rfl,by decide +kernel,by decide +kernel⟩
abbrev s_law_form_is:Stmt:=top 84
theorem sc_law_form_is:FnScope ["_law_form", "_law_spec", "_law_found"] ["_law_form", "_law_spec"] (defScope s_law_form_is):=⟨rfl,rfl,rfl,by decide +kernel,rfl,by decide +kernel,by decide +kernel⟩
abbrev s_law_number_form:Stmt:=top 85
theorem sc_law_number_form:FnScope ["_law_spec", "_law_figures", "_law_places", "_law_base", "_law_sign", "_law_size", "_law_mark", "_law_point", "_law_way", "_law_width", "_law_fill", "_law_side", "_law_strict"] ["_law_spec"] (defScope s_law_number_form):=⟨rfl,rfl,rfl,by decide +kernel,rfl,by decide +kernel,by decide +kernel⟩
abbrev s_law_made_by:Stmt:=top 86
theorem sc_law_made_by:FnScope ["_law_spec"] ["_law_spec"] (defScope s_law_made_by):=⟨rfl,rfl,rfl,by decide +kernel,rfl,by decide +kernel,by decide +kernel⟩
abbrev s_law_shows_well:Stmt:=top 87
theorem sc_law_shows_well:FnScope ["_law_cell", "_law_other", "_law_spec", "_law_due", "_law_form", "_law_again"] ["_law_cell", "_law_other"] (defScope s_law_shows_well):=⟨rfl,rfl,rfl,by decide +kernel,rfl,by decide +kernel,by decide +kernel⟩
abbrev s_law:Stmt:=top 88
theorem sc_law:FnScope ["_law_script", "_law_k"] ["_law_script"] (defScope s_law):=⟨rfl,rfl,rfl,by decide +kernel,rfl,by decide +kernel,by decide +kernel⟩
structure Blt (mg:Str→Option Value):Prop where
 z_len:mg "len" = none
 z_range:mg "range" = none
 z_isinstance:mg "isinstance" = none
 z_str:mg "str" = none
 z_max:mg "max" = none
 z_min:mg "min" = none
 z_int:mg "int" = none
 z_bool:mg "bool" = none
 z_abs:mg "abs" = none
 z_list:mg "list" = none
 z_tuple:mg "tuple" = none
 z_all:mg "all" = none
section
variable {P : Program} {w : World} {K : W.Frag} {mg : Str → Option Value} {base : Heap}
local macro_rules | `(tactic| walk_at "sd")=>`(tactic| first | omega | (unfold CPos;omega) | (unfold CNn;omega) | (unfold CNz;omega) | (unfold CDivB GL;omega) | (unfold CDivS GL;omega) | (unfold CMulA CMul CMulB GL;omega))
local macro_rules | `(tactic| walk_at "hp")=>`(tactic| first | assumption | (refine Same.at (by assumption) ?_;walk_at "hp") | exact upd_same)
local macro_rules | `(tactic| walk_at "sq")=>`(tactic| first | assumption | (refine Same.seq (by assumption) ?_;walk_at "sq") | exact SqL.of (by walk_at "hp"))
local macro_rules | `(tactic| walk_at "sm")=>`(tactic| first | assumption | exact Same.refl _ | (refine Same.trans ?_ (by assumption);walk_at "sm"))
local macro_rules | `(tactic| walk_at "rdc")=>`(tactic| fail "no callee")
local macro_rules | `(tactic| walk_at "rd1")=>`(tactic| first
 | (with_reducible refine r_seq ?_)
 | (with_reducible refine r_asg ?_)
 | (with_reducible refine r_ifS ?_)
 | (with_reducible refine r_ret ?_)
 | (with_reducible refine r_next ?_)
 | (with_reducible refine r_name ?_)
 | ((with_reducible refine' r_var ?e ?_);(case e=>rfl))
 | (with_reducible refine r_c ?_)
 | (with_reducible refine r_op ?_)
 | (with_reducible refine r_I0 ?_)
 | ((with_reducible refine' r_I ?hc ?_);(case hc=>walk_at "sd"))
 | (with_reducible refine r_test ?_)
 | (with_reducible refine r_tB ?_)
 | (with_reducible refine r_exbl ?_)
 | (with_reducible refine r_eqI ?_)
 | (with_reducible refine r_neI ?_)
 | (with_reducible refine iteT ?_)
 | (with_reducible refine iteF ?_)
 | (with_reducible refine i_nT ?_)
 | (with_reducible refine i_nF ?_)
 | ((with_reducible refine' i_dP ?hc ?_);(case hc=>omega))
 | ((with_reducible refine' i_dN ?hc ?_);(case hc=>omega))
 | ((with_reducible refine' i_ndP ?hc ?_);(case hc=>omega))
 | ((with_reducible refine' i_ndN ?hc ?_);(case hc=>omega))
 | (with_reducible refine i_d (fun hc=>?_) (fun hc=>?_))
 | (with_reducible refine i_nd (fun hc=>?_) (fun hc=>?_))
 | (with_reducible refine i_b (fun hc=>?_) (fun hc=>?_))
 | (with_reducible refine r_cons ?_)
 | (with_reducible refine r_nil ?_)
 | (with_reducible refine r_call ?_)
 | (with_reducible refine r_cb ?_)
 | (with_reducible refine r_un ?_)
 | (with_reducible refine r_U ?_)
 | (with_reducible refine r_and ?_)
 | (with_reducible refine r_or ?_)
 | (with_reducible refine r_not ?_)
 | (with_reducible refine r_andV ?_)
 | (with_reducible refine r_orV ?_)
 | (with_reducible refine r_notV ?_)
 | (with_reducible refine r_chain ?_)
 | (with_reducible refine r_tup ?_)
 | (with_reducible refine r_lst ?_)
 | ((with_reducible refine' r_kTup ?hz ?_);(case hz=>exact small (by simp only [List.length_cons,List.length_nil];decide));intro p' H' g' e')
 | ((with_reducible refine' r_kLst ?hz ?_);(case hz=>exact small (by simp only [List.length_cons,List.length_nil];decide));intro p' H' g' e')
 | (with_reducible refine r_isi_ii ?_)
 | (with_reducible refine r_isi_ib ?_)
 | (with_reducible refine r_isi_bb ?_)
 | (with_reducible refine r_isi_bi ?_)
 | ((with_reducible refine' r_isi_tt ?h ?_);(case h=>walk_at "hp"))
 | ((with_reducible refine' r_ixT ?h ?e ?_);(case h=>walk_at "hp");(case e=>rfl))
 | ((with_reducible refine' r_ix2 ?h ?hi (fun hi'=>?_) (fun hi'=>?_));(case h=>walk_at "hp");(case hi=>omega))
 | (with_reducible refine r_absA (fun k' hk'=>?_))
 | (with_reducible refine r_max2A (fun k' hk'=>?_))
 | (with_reducible refine r_min2A (fun k' hk'=>?_))
 | (with_reducible refine r_int1i ?_)
 | (with_reducible refine r_int1d (fun hc=>?_) (fun hc=>?_))
 | (with_reducible refine r_int1b ?_)
 | ((with_reducible refine' r_lenT2 ?h ?_);(case h=>walk_at "hp"))
 | ((with_reducible refine' r_lenT ?h ?_);(case h=>walk_at "hp"))
 | ((with_reducible refine' r_lenL ?h ?_);(case h=>walk_at "sq"))
 | (with_reducible refine r_par ?_)
 | (with_reducible refine r_two ?_)
 | (with_reducible refine r_exN ?_)
 | (with_reducible refine r_forL ?_)
 | (with_reducible refine r_forR ?_)
 | ((with_reducible refine' r_gTup ?h ?n ?_);(case h=>walk_at "hp");(case n=>rfl))
 | (with_reducible refine r_gCons ?_)
 | (with_reducible refine r_gNil ?_)
 | (with_reducible refine r_drop ?_)
 | (with_reducible refine r_retN ?_)
 | (with_reducible refine r_eqB ?_)
 | walk_at "rdc"
 | fail "rd stops")
local macro_rules | `(tactic| walk_at "rd")=>`(tactic| repeat' walk_at "rd1")
local macro_rules | `(tactic| walk_at "st")=>`(tactic| dsimp only [L2.start,List.map,List.length,List.replicate,List.append,HAppend.hAppend,Append.append,Nat.reduceAdd,Nat.reduceSub])
local macro_rules | `(tactic| walk_at "rdc")=>`(tactic| first
 | (with_reducible refine r_slice ?_)
 | (with_reducible refine r_noPart ?_)
 | (with_reducible refine r_part ?_)
 | (with_reducible refine r_exint ?_)
 | (with_reducible refine r_compL ?_)
 | (with_reducible refine r_compR ?_)
 | (with_reducible refine r_noIf ?_)
 | (with_reducible refine r_ifE ?_)
 | ((with_reducible refine' r_slL ?h ?_);(case h=>walk_at "sq");intro p' H' g' e')
 | ((with_reducible refine' r_eqS (b:=true) ?e ?_);(case e=>exact decide_eq_true rfl))
 | ((with_reducible refine' r_eqS (b:=false) ?e ?_);(case e=>exact (by decide +kernel)))
 | fail "rd2 stops")
local macro_rules | `(tactic| walk_at "odd")=>`(tactic| first | assumption | exact .non | exact .bl _ | exact .str _ | exact .lst (by walk_at "hp") | exact .tup (by walk_at "hp") | exact .dct (by walk_at "hp") | (refine Odd.same ?_ (by assumption);walk_at "odd"))
local macro_rules | `(tactic| walk_at "rdc")=>`(tactic| first
 | (with_reducible refine r_isiO_int (kit_int_int _) ?_)
 | (with_reducible refine r_isiO_int (kit_int_bool _) ?_)
 | (with_reducible refine r_isiO_int (kit_int_tuple _) ?_)
 | (with_reducible refine r_isiO_bl (kit_bool_int _) ?_)
 | (with_reducible refine r_isiO_bl (kit_bool_bool _) ?_)
 | (with_reducible refine r_isiO_bl (kit_bool_tuple _) ?_)
 | (with_reducible refine r_isiO_str (kit_str_int _) ?_)
 | (with_reducible refine r_isiO_str (kit_str_tuple _) ?_)
 | (with_reducible refine r_isiO_non (kit_NoneType_int _) ?_)
 | (with_reducible refine r_isiO_non (kit_NoneType_tuple _) ?_)
 | ((with_reducible refine' r_isiO_lst ?h (kit_list_int _) ?_);(case h=>walk_at "hp"))
 | ((with_reducible refine' r_isiO_lst ?h (kit_list_tuple _) ?_);(case h=>walk_at "hp"))
 | ((with_reducible refine' r_isiO_tup ?h (kit_tuple_int _) ?_);(case h=>walk_at "hp"))
 | ((with_reducible refine' r_isiO_tup ?h (kit_tuple_tuple _) ?_);(case h=>walk_at "hp"))
 | ((with_reducible refine' r_isiO_dct ?h (kit_dict_int _) ?_);(case h=>walk_at "hp"))
 | ((with_reducible refine' r_isiO_dct ?h (kit_dict_tuple _) ?_);(case h=>walk_at "hp"))
 | ((with_reducible refine' r_strI ?h0 ?h1 ?_);(case h0=>omega);(case h1=>omega);intro x')
 | (with_reducible refine r_raise ?_)
 | (with_reducible refine r_tryX ?_)
 | ((with_reducible refine r_dct ?_);intro p' H' g' e')
 | (with_reducible refine r_bmL ?_)
 | ((with_reducible refine' r_tyLL ?h ?_);(case h=>walk_at "sq"))
 | fail "rd3 stops")
local macro_rules | `(tactic| walk_at "tl")=>`(tactic| first | omega | (simp only [Lt_T,List.length_append,List.length_replicate,List.length_cons,List.length_nil,List.length_take,List.length_drop];omega) | (with_unfolding_all decide))
local macro_rules | `(tactic| walk_at "rdc")=>`(tactic| first
 | ((with_reducible refine' rTT_add ?hz ?_);(case hz=>walk_at "tl"))
 | ((with_reducible refine' rTS_add ?hz ?_);(case hz=>walk_at "tl"))
 | ((with_reducible refine' rST_add ?hz ?_);(case hz=>walk_at "tl"))
 | ((with_reducible refine' rT_add ?hz ?_);(case hz=>walk_at "tl"))
 | ((with_reducible refine' rTT_len ?hz ?_);(case hz=>walk_at "tl"))
 | ((with_reducible refine' rT_len ?hz ?_);(case hz=>walk_at "tl"))
 | ((with_reducible refine' rT_ixK (z:=Str.ofString _) 94 ?hn ?hz ?h0 ?h1 ?_);(case hn=>decide +kernel);(case hz=>decide);(case h0=>omega);(case h1=>omega);intro c' hc')
 | ((with_reducible refine' rT_ixK (z:=Str.ofString _) 16 ?hn ?hz ?h0 ?h1 ?_);(case hn=>decide +kernel);(case hz=>decide);(case h0=>omega);(case h1=>omega);intro c' hc')
 | ((with_reducible refine' rT_ixK (z:=Str.ofString _) 8 ?hn ?hz ?h0 ?h1 ?_);(case hn=>decide +kernel);(case hz=>decide);(case h0=>omega);(case h1=>omega);intro c' hc')
 | ((with_reducible refine' rT_ixK (z:=Str.ofString _) 32 ?hn ?hz ?h0 ?h1 ?_);(case hn=>decide +kernel);(case hz=>decide);(case h0=>omega);(case h1=>omega);intro c' hc')
 | ((with_reducible refine' rT_ixK (z:=Str.ofString _) 13 ?hn ?hz ?h0 ?h1 ?_);(case hn=>decide +kernel);(case hz=>decide);(case h0=>omega);(case h1=>omega);intro c' hc')
 | ((with_reducible refine' rT_ixK (z:=Str.ofString _) 17 ?hn ?hz ?h0 ?h1 ?_);(case hn=>decide +kernel);(case hz=>decide);(case h0=>omega);(case h1=>omega);intro c' hc')
 | ((with_reducible refine' rT_ixK (z:=Str.ofString _) 5 ?hn ?hz ?h0 ?h1 ?_);(case hn=>decide +kernel);(case hz=>decide);(case h0=>omega);(case h1=>omega);intro c' hc')
 | ((with_reducible refine' rTT_ix ?hz ?h0 ?h1 ?_);(case hz=>walk_at "tl");(case h0=>omega);(case h1=>walk_at "tl"))
 | ((with_reducible refine' rT_ix ?hz ?h0 ?h1 ?_);(case hz=>walk_at "tl");(case h0=>omega);(case h1=>walk_at "tl"))
 | ((with_reducible refine' rTT_ixL ?hz ?h1 ?_);(case hz=>walk_at "tl");(case h1=>walk_at "tl"))
 | ((with_reducible refine' rTT_sl0 ?hz ?h0 ?_);(case hz=>walk_at "tl");(case h0=>omega))
 | ((with_reducible refine' rTT_sli ?hz ?h0 ?_);(case hz=>walk_at "tl");(case h0=>omega))
 | ((with_reducible refine' rTT_slij ?hz ?h0 ?h1 ?_);(case hz=>walk_at "tl");(case h0=>omega);(case h1=>omega))
 | ((with_reducible refine' rT_mul1 ?h0 ?h1 ?_);(case h0=>omega);(case h1=>omega))
 | (with_reducible refine r_isi_ss ?_)
 | ((with_reducible refine' r_eqS (b:=true) ?e ?_);(case e=>exact decide_eq_true rfl))
 | ((with_reducible refine' r_eqS (b:=false) ?e ?_);(case e=>exact (by decide +kernel)))
 | ((with_reducible refine' r_neS (b:=true) ?e ?_);(case e=>exact decide_eq_true rfl))
 | ((with_reducible refine' r_neS (b:=false) ?e ?_);(case e=>exact (by decide +kernel)))
 | (with_reducible refine rTT_eq ?_)
 | (with_reducible refine rTT_ne ?_)
 | (with_reducible refine r_eqT2 ?_)
 | (with_reducible refine r_neT2 ?_)
 | (with_reducible refine r_bmL ?_)
 | (with_reducible refine r_tyS ?_)
 | (with_reducible refine r_findT ?_)
 | fail "rd4 stops")
local macro_rules | `(tactic| walk_at "rdc")=>`(tactic| first
 | (with_reducible refine r_forS ?_)
 | ((with_reducible refine' r_eqS (x:=T _) (b:=true) ?e ?_);(case e=>exact decide_eq_true rfl))
 | (with_reducible refine rTT_eq ?_)
 | (with_reducible refine rTS_eq ?_)
 | ((with_reducible refine' r_neS (x:=T _) (b:=true) ?e ?_);(case e=>exact decide_eq_true rfl))
 | (with_reducible refine rTT_ne ?_)
 | (with_reducible refine rTS_ne ?_)
 | fail "rd5 stops")
local macro_rules | `(tactic| walk_at "rdc")=>`(tactic| first
 | (with_reducible refine r_bm0 ?_)
 | ((with_reducible refine' r_ixTs ?h ?h0 ?h1 ?_);(case h=>walk_at "sq");(case h0=>omega);(case h1=>omega))
 | fail "rd6 stops")
local macro_rules | `(tactic| walk_at "asc")=>`(tactic| first | assumption | exact Asc.nil | exact Asc.one (by omega) | exact Asc.app (by walk_at "asc") (by walk_at "asc") | exact Asc.take (by walk_at "asc") _ | exact Asc.drop (by walk_at "asc") _ | exact Asc.rep (by walk_at "asc") _)
local macro_rules | `(tactic| walk_at "rdc")=>`(tactic| first
 | (with_reducible refine r_isNN ?_)
 | (with_reducible refine r_isNI ?_)
 | (with_reducible refine r_isNS ?_)
 | (with_reducible refine r_isiO_str (kit_str_str _) ?_)
 | ((with_reducible refine' r_isi_nt ?h ?_);(case h=>assumption))
 | ((with_reducible refine' rTT_mul ?h1 ?h2 ?h3 ?_);(case h1=>omega);(case h2=>omega);(case h3=>(simp only [Int.reduceToNat];omega)))
 | fail "rd7 stops")
local macro_rules | `(tactic| walk_at "rdc")=>`(tactic| first
 | ((with_reducible refine' r_isi_ll ?h ?_);(case h=>walk_at "hp"))
 | ((with_reducible refine' r_eqLs ?h1 ?h2 ?_);(case h1=>walk_at "sq");(case h2=>walk_at "sq"))
 | ((with_reducible refine' r_neLs ?h1 ?h2 ?_);(case h1=>walk_at "sq");(case h2=>walk_at "sq"))
 | ((with_reducible refine' r_inTs ?h ?_);(case h=>walk_at "sq"))
 | ((with_reducible refine' r_ninTs ?h ?_);(case h=>walk_at "sq"))
 | ((with_reducible refine' r_ixTsL ?h ?h0 ?_);(case h=>walk_at "sq");(case h0=>omega))
 | ((with_reducible refine' rTT_slL ?hz ?_);(case hz=>walk_at "tl"))
 | ((with_reducible refine' r_listOf ?h ?_);(case h=>walk_at "sq");intro l' H' g' n' e')
 | (with_reducible refine r_startT ?_)
 | ((with_reducible refine' r_tyLL ?h ?_);(case h=>walk_at "sq"))
 | (with_reducible refine r_bm0 ?_)
 | fail "rd12 stops")
local macro_rules | `(tactic| walk_at "rdc")=>`(tactic| first
 | (with_reducible refine r_forR2 ?_)
 | fail "rd8 stops")
local macro_rules | `(tactic| walk_at "sqt")=>`(tactic| first | assumption | exact SqT.same (by assumption) (by assumption) | exact SqT.same (SqT.same (by assumption) (by assumption)) (by assumption) | exact SqT.of (by walk_at "hp"))
local macro_rules | `(tactic| walk_at "rdc")=>`(tactic| first
 | ((with_reducible refine' r_ixQ ?h ?e ?_);(case h=>walk_at "sqt");(case e=>rfl))
 | ((with_reducible refine' r_lenQ2 ?h ?_);(case h=>walk_at "sqt"))
 | ((with_reducible refine' r_neQt ?h1 ?h2 ?_);(case h1=>walk_at "sqt");(case h2=>walk_at "sqt"))
 | ((with_reducible refine' r_lenQ ?h ?_);(case h=>walk_at "sqt"))
 | ((with_reducible refine' r_isiQ ?h ?_);(case h=>walk_at "sqt"))
 | fail "rd9 stops")
local macro_rules | `(tactic| walk_at "rdc")=>`(tactic| first
 | (with_reducible refine r_forT ?_)
 | ((with_reducible refine' r_inF ?h ?_);(case h=>first | assumption | omega))
 | ((with_reducible refine' r_eqNil ?h1 ?h2 ?_);(case h1=>walk_at "sq");(case h2=>walk_at "sq"))
 | (with_reducible refine rTT_slE ?_)
 | fail "rd10 stops")
local macro_rules | `(tactic| walk_at "rdc")=>`(tactic| first
 | ((with_reducible refine' r_rjT ?h0 ?h1 ?_);(case h0=>omega);(case h1=>omega))
 | fail "rd11 stops")
local macro_rules | `(tactic| walk_at "rdc")=>`(tactic| first
 | (with_reducible refine r_sl3 ?_)
 | ((with_reducible refine' r_rev ?h ?_);(case h=>walk_at "tl"))
 | (with_reducible refine r_forD ?_)
 | fail "rd13 stops")
local macro_rules | `(tactic| walk_at "fm")=>`(tactic| first | assumption | (refine' FormAt.same (by assumption) ?_;walk_at "fm"))
local macro_rules | `(tactic| walk_at "fld2")=>`(tactic| fail "no own field")
local macro_rules | `(tactic| walk_at "fld")=>`(tactic| first | (exact FormAt.width (by walk_at "fm")) | (exact FormAt.fill (by walk_at "fm")) | (exact FormAt.side (by walk_at "fm")) | (exact FormAt.strict (by walk_at "fm")) | walk_at "fld2")
local macro_rules | `(tactic| walk_at "wk")=>`(tactic| repeat (first | exact Wk.nil | refine Wk.one ?_ | refine Wk.any ?_))
local macro_rules | `(tactic| walk_at "rdc")=>`(tactic| first
 | (with_reducible refine r_fld ?_)
 | (with_reducible refine r_raise ?_)
 | ((with_reducible refine' r_kFld ?h ?_);(case h=>walk_at "fld"))
 | (with_reducible refine r_meth ?_)
 | ((with_reducible refine' r_kMeth ?h ?_);(case h=>walk_at "ins"))
 | (with_reducible refine r_methT ?_)
 | (with_reducible refine r_callT ?_)
 | ((with_reducible refine' r_wk ?h ?_);(case h=>walk_at "wk"))
 | (with_reducible refine r_sFld ?_)
 | (with_reducible refine r_make ?_)
 | (with_reducible refine r_par3 ?_)
 | (with_reducible refine r_three ?_)
 | (with_reducible refine r_compS ?_)
 | (with_reducible refine r_inTx ?_)
 | (with_reducible refine r_ninS ?_)
 | ((with_reducible refine' r_all ?h ?_);(case h=>walk_at "sq"))
 | fail "rd14 stops")
local macro_rules | `(tactic| walk_at "rd1")=>`(tactic| first | ((with_reducible refine' r_ixL ?h ?e ?_);(case h=>walk_at "sq");(case e=>rfl)) | fail "no written place")
theorem gcd_turn {g l:Int} (hg:0≤g) (hl:0 < l):Int.gcd l (g % l)=Int.gcd g l:=by
 rw [Int.gcd_comm g l]
 have e:g % l=g+l*(-(g / l)):=by
  have:=Int.emod_add_mul_ediv g l
  rw [Int.mul_neg];omega
 rw [e,Int.gcd_add_mul_left_right]
theorem gcd_abs {a b g l:Int} (h1:(0≤a∧g=a)∨(a < 0∧g = -a)) (h2:(0≤b∧l=b)∨(b < 0∧l = -b)):0≤g∧0≤l∧Int.gcd g l=Int.gcd a b:=by
 rcases h1 with ⟨h,rfl⟩ | ⟨h,rfl⟩ <;> rcases h2 with ⟨h',rfl⟩ | ⟨h',rfl⟩ <;> simp only [Int.gcd_neg,Int.neg_gcd,and_true] <;> omega
theorem mul_bd {x y L M:Int} (h1 : -L < x) (h2:x < L) (h3:0 < y) (h4:y < M) : -(L*M) < x*y∧x*y < L*M:=by
 have hL:0 < L:=by omega
 have hM:0 < M:=by omega
 have e : ∀ z:Int,0≤z→z < L→z*y < L*M:=fun z p q =>
  Int.lt_of_le_of_lt (Int.mul_le_mul_of_nonneg_right (Int.le_of_lt q) (Int.le_of_lt h3)) (Int.mul_lt_mul_of_pos_left h4 hL)
 rcases Int.lt_or_le x 0 with p | p
 ·have a1:=e (-x) (by omega) (by omega)
  have a2:=Int.mul_pos hL hM
  have a3:=Int.mul_nonneg (show 0 ≤ -x by omega) (Int.le_of_lt h3)
  rw [Int.neg_mul] at a1 a3;omega
 ·have a1:=e x p h2
  have a2:=Int.mul_pos hL hM
  have a3:=Int.mul_nonneg p (Int.le_of_lt h3)
  omega
def sp_law_cell_at (K:W.Frag):Sp:=fun vs H Q _=>∃ (a:Addr) (ns:List Int) (k:Int),vs=[.ref a,.int k]∧SqL K H a (ns.map V.int)∧0≤k ∧ ∀ v:Int,Q (.int v) H
theorem c_cell {K:W.Frag} {a:Addr} {ns:List Int} {k:Int} {H:Hp} {Q:VK} {E:XK} (h1:SqL K H a (ns.map V.int)) (h2:0≤k) (q : ∀ v:Int,Q (.int v) H):sp_law_cell_at K ([.ref a,.int k]++[]) H Q E:=⟨a,ns,k,rfl,h1,h2,q⟩
def pkA (c t:Int):Int:=(c % 1000000007+314159265+104729*t) % 998244353*((c % 1000000007+314159265+104729*t) % 998244353) % 998244353
def pk (c t m:Int):Int:=if 1000000000000000000 < c∧0 < c / 2 ^ (20*t).toNat then c / 2 ^ (20*t).toNat % 1048576 % m else (pkA c t+271828183)*(pkA c t / 1024+48271+t) % 2147483629 / 128 % m
def sp_law_pick (K:W.Frag):Sp:=fun vs H Q _=>∃ c t m:Int,vs=[.int c,.int t,.int m]∧0≤t∧0 < m∧(0≤pk c t m→pk c t m < m→Q (.int (pk c t m)) H)
theorem c_pickD {K:W.Frag} {c t m:Int} {H:Hp} {Q:VK} {E:XK} (h1:0≤t) (h2:0 < m) (q:0≤pk c t m→pk c t m < m→Q (.int (pk c t m)) H):sp_law_pick K ([.int c,.int t,.int m]++[]) H Q E:=⟨c,t,m,rfl,h1,h2,q⟩
theorem c_pick {K:W.Frag} {c t m:Int} {H:Hp} {Q:VK} {E:XK} (h1:0≤t) (h2:0 < m) (q : ∀ v:Int,0≤v→v < m→Q (.int v) H):sp_law_pick K ([.int c,.int t,.int m]++[]) H Q E:=⟨c,t,m,rfl,h1,h2,q _⟩
local macro_rules | `(tactic| walk_at "rdc")=>`(tactic| ((with_reducible refine' c_pick ?h1 ?h2 ?_);(case h1=>omega);(case h2=>omega);intro v' h0' h1'))
local macro_rules | `(tactic| walk_at "rdc")=>`(tactic| ((with_reducible refine' c_cell ?h1 ?h2 ?_);(case h1=>walk_at "sq");(case h2=>omega);intro v'))
def GrB (a b:Int):Prop:=-10000000000000000000000000000000000000000000000000000000000000000000000000000000000000000000000000000000000000000000000000000000000000000000000000000000000000000000000000000000000000000000000 < a∧a < 10000000000000000000000000000000000000000000000000000000000000000000000000000000000000000000000000000000000000000000000000000000000000000000000000000000000000000000000000000000000000000000000∧0 < b∧b < 10000000000000000000000000000000000000000000000000000000000000000000000000000000000000000000000000000000000000000000000000000000000000000000000000000000000000000000000000000000000000000000000
def Way (w:Str):Prop:=w = "down" ∨ w = "up" ∨ w = "cut" ∨ w = "near" ∨ w = "even"
def upB (w:Str) (be re bo:Int):Bool:=if w = "down" then false else if w = "up" then true else if w = "cut" then decide (be < 0) else if 2*re=bo then (decide (w = "near") || decide (be % 2=1)) else decide (2*re > bo)
def grid (w:Str) (a b P:Int):Int:=if 0 < a*P % b∧upB w (a*P / b) (a*P % b) b=true then a*P / b+1 else a*P / b
theorem up_down {be re bo:Int}:upB "down" be re bo=false:=by unfold upB;rw [if_pos rfl]
theorem up_up {be re bo:Int}:upB "up" be re bo=true:=by unfold upB;rw [if_neg (by decide +kernel),if_pos rfl]
theorem up_cut {be re bo:Int}:upB "cut" be re bo=decide (be < 0):=by unfold upB;rw [if_neg (by decide +kernel),if_neg (by decide +kernel),if_pos rfl]
theorem up_near {be re bo:Int} (h:2*re=bo):upB "near" be re bo=true:=by unfold upB;rw [if_neg (by decide +kernel),if_neg (by decide +kernel),if_neg (by decide +kernel),if_pos h,decide_eq_true rfl];rfl
theorem up_near' {be re bo:Int} (h : ¬ 2*re=bo):upB "near" be re bo=decide (2*re > bo):=by unfold upB;rw [if_neg (by decide +kernel),if_neg (by decide +kernel),if_neg (by decide +kernel),if_neg h]
theorem up_even {be re bo:Int} (h:2*re=bo):upB "even" be re bo=decide (be % 2=1):=by unfold upB;rw [if_neg (by decide +kernel),if_neg (by decide +kernel),if_neg (by decide +kernel),if_pos h,decide_eq_false (by decide +kernel)];rfl
theorem up_even' {be re bo:Int} (h : ¬ 2*re=bo):upB "even" be re bo=decide (2*re > bo):=by unfold upB;rw [if_neg (by decide +kernel),if_neg (by decide +kernel),if_neg (by decide +kernel),if_neg h]
theorem pw_bd {b : Int} (h1 : 2 ≤ b) (h2 : b ≤ 16) : ∀ n : Nat, 1 ≤ b ^ n ∧ b ^ n ≤ 16 ^ n
  | 0 => by simp
  | n + 1 => by
    obtain ⟨p, q⟩ := pw_bd h1 h2 n
    rw [Int.pow_succ, Int.pow_succ]
    have a1 := Int.mul_le_mul p (show 1 ≤ b by omega) (by decide) (by omega)
    have a2 := Int.mul_le_mul q h2 (by omega) (by omega)
    omega
theorem pw_mono {n m : Nat} (h : n ≤ m) : (16 : Int) ^ n ≤ 16 ^ m := by
  induction h with
  | refl => exact Int.le_refl _
  | step h ih =>
    rename_i m
    have := (pw_bd (b := 16) (by decide) (by decide) m).1
    rw [Int.pow_succ]; omega
theorem pw6 {b t:Int} (h1:2≤b) (h2:b≤16) (h3:t≤6):1≤b ^ t.toNat∧b ^ t.toNat≤16777216:=by
 have a:=pw_bd h1 h2 t.toNat
 have b:=pw_mono (n:=t.toNat) (m:=6) (by omega)
 have c:(16:Int) ^ 6=16777216:=by decide
 omega
theorem pw60 {b:Int} {n:Nat} (h1:2≤b) (h2:b≤16) (h3:n≤60):1≤b ^ n∧b ^ n≤1766847064778384329583297500742918515827483896875618958121606201292619776:=by
 have a:=pw_bd h1 h2 n
 have b:=pw_mono (n:=n) (m:=60) (by omega)
 have c:(16:Int) ^ 60=1766847064778384329583297500742918515827483896875618958121606201292619776:=by decide +kernel
 omega
theorem fl_bd (t:Int) {b:Int} (h:0 < b):t / b*b≤t∧t < (t / b+1)*b∧t / b*b=t - t % b∧0≤t % b∧t % b < b:=by
 have e:=Int.emod_add_mul_ediv t b
 have m0:=Int.emod_nonneg t (show b≠0 by omega)
 have m1:=Int.emod_lt_of_pos t h
 rw [Int.add_mul,Int.one_mul,Int.mul_comm (t / b) b]
 omega
def sp_power_of (K:W.Frag):Sp:=fun vs H Q _=>∃ b t:Int,vs=[.int b,.int t]∧2≤b∧b≤16∧0≤t∧t≤60∧Q (.int (b ^ t.toNat)) H
theorem c_power_of {K:W.Frag} {b t:Int} {H:Hp} {Q:VK} {E:XK} (h1:2≤b) (h2:b≤16) (h3:0≤t) (h4:t≤60) (q:Q (.int (b ^ t.toNat)) H):sp_power_of K ([.int b,.int t]++[]) H Q E:=⟨b,t,rfl,h1,h2,h3,h4,q⟩
def sp_goes_up (K:W.Frag):Sp:=fun vs H Q _=>∃ (be re bo:Int) (w:Str),vs=[.int be,.int re,.int bo,.str w]∧Way w∧0≤re∧re < 10000000000000000000000000000000000000000000000000000000000000000000000000000000000000000000000000000000000000000000000000000000000000000000000000000000000000000000000000000000000000000000000∧Q (.bl (upB w be re bo)) H
theorem c_goes_up {K:W.Frag} {be re bo:Int} {w:Str} {H:Hp} {Q:VK} {E:XK} (h1:Way w) (h2:0≤re) (h3:re < 10000000000000000000000000000000000000000000000000000000000000000000000000000000000000000000000000000000000000000000000000000000000000000000000000000000000000000000000000000000000000000000000) (q:Q (.bl (upB w be re bo)) H):sp_goes_up K ([.int be,.int re,.int bo,.str w]++[]) H Q E:=⟨be,re,bo,w,rfl,h1,h2,h3,q⟩
def sp_gridded (K:W.Frag):Sp:=fun vs H Q _=>∃ (p:Addr) (a b B t:Int) (w:Str),vs=[.ref p,.int B,.int t,.str w]∧H p=some (.tup [.int a,.int b])∧GrB a b∧2≤B∧B≤16∧0≤t∧t≤6∧Way w∧Q (.int (grid w a b (B ^ t.toNat))) H
theorem c_gridded {K:W.Frag} {p:Addr} {a b B t:Int} {w:Str} {H:Hp} {Q:VK} {E:XK} (h1:H p=some (.tup [.int a,.int b])) (h2:GrB a b) (h3:2≤B) (h4:B≤16) (h5:0≤t) (h6:t≤6) (h7:Way w) (q:Q (.int (grid w a b (B ^ t.toNat))) H):sp_gridded K ([.ref p,.int B,.int t,.str w]++[]) H Q E:=⟨p,a,b,B,t,w,rfl,h1,h2,h3,h4,h5,h6,h7,q⟩
theorem r_findF {c:Nat} {H:Hp} {Q:VK} (h:c < 127) (q:Q (.int (fv c)) H):rFindT (.str "0123456789abcdef") [.str (T [c])] H Q:=r_findT (by rw [find_fv h];exact q)
theorem r_ixF {i:Int} {H:Hp} {Q:VK} (h0:0≤i) (h1:i < 16) (q:Q (.str (T [fc i.toNat])) H):rIxS (.str "0123456789abcdef") (.int i) H Q:=by
 have e:(Lt "0123456789abcdef").length=16:=by decide +kernel
 exact rT_ix (by omega) h0 (by omega) q
local macro_rules | `(tactic| walk_at "rdc")=>`(tactic| ((with_reducible refine' rT_mulZ ?h1 ?h2 ?_);(case h1=>omega);(case h2=>omega)))
local macro_rules | `(tactic| walk_at "rdc")=>`(tactic| ((with_reducible refine' r_findF ?h1 ?_);(case h1=>first | omega | assumption)))
local macro_rules | `(tactic| walk_at "rdc")=>`(tactic| ((with_reducible refine' r_ixF ?h1 ?h2 ?_);(case h1=>omega);(case h2=>omega)))
def sp_figures_of (K:W.Frag):Sp:=fun vs H Q _=>∃ n b:Int,vs=[.int n,.int b]∧0≤n∧2≤b∧b≤16∧n < 1766847064778384329583297500742918515827483896875618958121606201292619776∧(∀ l,l=figs b.toNat n.toNat→FigB b l→val b l=n→0 < l.length→l.length≤240→(l.getD 0 0=48→l=[48])→Q (.str (T l)) H)
theorem c_figures_of {K:W.Frag} {n b:Int} {H:Hp} {Q:VK} {E:XK} (h1:0≤n) (h2:2≤b) (h3:b≤16) (h4:n < 1766847064778384329583297500742918515827483896875618958121606201292619776) (q:(∀ l,l=figs b.toNat n.toNat→FigB b l→val b l=n→0 < l.length→l.length≤240→(l.getD 0 0=48→l=[48])→Q (.str (T l)) H)):sp_figures_of K ([.int n,.int b]++[]) H Q E:=⟨n,b,rfl,h1,h2,h3,h4,q⟩
local macro_rules | `(tactic| walk_at "rdc")=>`(tactic| ((with_reducible refine' c_figures_of ?h1 ?h2 ?h3 ?h4 ?_);(case h1=>omega);(case h2=>omega);(case h3=>omega);(case h4=>omega);intro l' el' f1' f2' f3' f4' f5'))
def sp_number_of (K:W.Frag):Sp:=fun vs H Q _=>∃ (l:List Nat) (b:Int),vs=[.str (T l),.int b]∧FigB b l∧1≤l.length∧l.length≤240∧2≤b∧b≤16∧Q (.int (val b l)) H
theorem c_number_of {K:W.Frag} {l:List Nat} {b:Int} {H:Hp} {Q:VK} {E:XK} (h1:FigB b l) (h2:1≤l.length) (h3:l.length≤240) (h4:2≤b) (h5:b≤16) (q:Q (.int (val b l)) H):sp_number_of K ([.str (T l),.int b]++[]) H Q E:=⟨l,b,rfl,h1,h2,h3,h4,h5,q⟩
def sp_parts_of (K:W.Frag):Sp:=fun vs H Q _=>∃ (a:List Nat) (z g:Int),vs=[.str (T a),.int z,.int g]∧0 < z∧z≤9∧0≤g∧g≤1∧a.length≤400 ∧ ∀ p H',Same H H'→H' p=some (.lst ((pcs a z.toNat g.toNat a.length).map fun l=>V.str (T l)))→Q (.ref p) H'
theorem c_parts_of {K:W.Frag} {a:List Nat} {z g:Int} {H:Hp} {Q:VK} {E:XK} (h1:0 < z) (h2:z≤9) (h3:0≤g) (h4:g≤1) (h5:a.length≤400) (q : ∀ p H',Same H H'→H' p=some (.lst ((pcs a z.toNat g.toNat a.length).map fun l=>V.str (T l)))→Q (.ref p) H'):sp_parts_of K ([.str (T a),.int z,.int g]++[]) H Q E:=⟨a,z,g,rfl,h1,h2,h3,h4,h5,q⟩
local macro_rules | `(tactic| walk_at "rdc")=>`(tactic| ((with_reducible refine' c_parts_of ?h1 ?h2 ?h3 ?h4 ?h5 ?_);(case h1=>omega);(case h2=>omega);(case h3=>omega);(case h4=>omega);(case h5=>omega);intro p' H' g' e'))
def sp_grouped (K:W.Frag):Sp:=fun vs H Q _=>∃ (a:List Nat) (z:Int) (m:Nat),vs=[.str (T a),.int z,.str (T [m])]∧0≤z∧z≤9∧a.length≤400 ∧ ∀ H',Same H H'→Q (.str (T (gr z.toNat m a))) H'
theorem c_grouped {K:W.Frag} {a:List Nat} {z:Int} {m:Nat} {H:Hp} {Q:VK} {E:XK} (h1:0≤z) (h2:z≤9) (h5:a.length≤400) (q : ∀ H',Same H H'→Q (.str (T (gr z.toNat m a))) H'):sp_grouped K ([.str (T a),.int z,.str (T [m])]++[]) H Q E:=⟨a,z,m,rfl,h1,h2,h5,q⟩
local macro_rules | `(tactic| walk_at "rdc")=>`(tactic| ((with_reducible refine' c_grouped ?h1 ?h2 ?h5 ?_);(case h1=>omega);(case h2=>omega);(case h5=>omega);intro H' g'))
def NumB (n b p:Int):Prop:=0≤n∧2≤b∧b≤16∧0≤p∧p≤6∧n.toNat < b.toNat ^ (40+p.toNat)
def bdI (n b p:Int) (pt:Nat) (z:Int) (m:Nat):List Nat:=bdy b.toNat p.toNat pt z.toNat m n.toNat
theorem NumB.big {n b p:Int} (h:NumB n b p):n < 1766847064778384329583297500742918515827483896875618958121606201292619776:=by
 obtain ⟨h1,h2,h3,h4,h5,h6⟩:=h
 have e1:b.toNat ^ (40+p.toNat)≤16 ^ (40+p.toNat):=Nat.pow_le_pow_left (by omega) _
 have e2:(16:Nat) ^ (40+p.toNat)≤16 ^ 46:=Nat.pow_le_pow_right (by decide) (by omega)
 have e3:(16:Nat) ^ 46 < 1766847064778384329583297500742918515827483896875618958121606201292619776:=by decide +kernel
 omega
def sp_body_of (K:W.Frag):Sp:=fun vs H Q _=>∃ (n b p z:Int) (pt m:Nat),vs=[.int n,.int b,.int p,.str (T [pt]),.int z,.str (T [m])]∧NumB n b p∧0≤z∧z≤9 ∧ ∀ H',Same H H'→Q (.str (T (bdI n b p pt z m))) H'
theorem c_body_of {K:W.Frag} {n b p z:Int} {pt m:Nat} {H:Hp} {Q:VK} {E:XK} (h1:NumB n b p) (h2:0≤z) (h3:z≤9) (q : ∀ H',Same H H'→Q (.str (T (bdI n b p pt z m))) H'):sp_body_of K ([.int n,.int b,.int p,.str (T [pt]),.int z,.str (T [m])]++[]) H Q E:=⟨n,b,p,z,pt,m,rfl,h1,h2,h3,q⟩
local macro_rules | `(tactic| walk_at "rdc")=>`(tactic| ((with_reducible refine' c_body_of ?h1 ?h2 ?h3 ?_);(case h1=>assumption);(case h2=>omega);(case h3=>omega);intro H' g'))
local macro_rules | `(tactic| walk_at "rdc")=>`(tactic| ((with_reducible refine' c_number_in ?h1 ?h2 ?h3 ?_);(case h1=>assumption);(case h2=>omega);(case h3=>omega);intro H' g'))
def sp_ends_of (K:W.Frag):Sp:=fun vs H Q _=>∃ (x:Str) (b:Bool),vs=[.str x,.bl b]∧Style x ∧ ∀ p,SqT K H p [.str (T (stL x b)),.str (T (stT x b))]→Q (.ref p) H
theorem c_ends_of {K:W.Frag} {x:Str} {b:Bool} {H:Hp} {Q:VK} {E:XK} (h:Style x) (q : ∀ p,SqT K H p [.str (T (stL x b)),.str (T (stT x b))]→Q (.ref p) H):sp_ends_of K ([.str x,.bl b]++[]) H Q E:=⟨x,b,rfl,h,q⟩
local macro_rules | `(tactic| walk_at "rdc")=>`(tactic| ((with_reducible refine' c_ends_of ?h ?_);(case h=>assumption);intro p' e'))
def sg (x:Str) (b:Bool) (l:List Nat):List Nat:=stL x b++l++stT x b
theorem sg_len {x:Str} (h:Style x) (b:Bool) (l:List Nat):l.length≤(sg x b l).length∧(sg x b l).length≤l.length+2:=by
 have:=st_len h b
 unfold sg;simp only [List.length_append];omega
def sp_signed (K:W.Frag):Sp:=fun vs H Q _=>∃ (l:List Nat) (x:Str) (b:Bool),vs=[.str (T l),.str x,.bl b]∧Style x∧l.length≤1000∧Q (.str (T (sg x b l))) H
theorem c_signed {K:W.Frag} {l:List Nat} {x:Str} {b:Bool} {H:Hp} {Q:VK} {E:XK} (h:Style x) (h2:l.length≤1000) (q:Q (.str (T (sg x b l))) H):sp_signed K ([.str (T l),.str x,.bl b]++[]) H Q E:=⟨l,x,b,rfl,h,h2,q⟩
local macro_rules | `(tactic| walk_at "rdc")=>`(tactic| ((with_reducible refine' c_signed ?h ?h2 ?_);(case h=>assumption);(case h2=>omega)))
def sp_is_whole (K:W.Frag):Sp:=fun vs H Q _=>∃ i:Int,vs=[.int i]∧Q (.bl true) H
theorem c_is_whole {K:W.Frag} {i:Int} {H:Hp} {Q:VK} {E:XK} (q:Q (.bl true) H):sp_is_whole K ([.int i]++[]) H Q E:=⟨i,rfl,q⟩
def sp_common_divisor (K:W.Frag):Sp:=fun vs H Q _=>∃ a b:Int,vs=[.int a,.int b]∧Q (.int (Int.gcd a b)) H
theorem c_common_divisor {K:W.Frag} {a b:Int} {H:Hp} {Q:VK} {E:XK} (q:Q (.int (Int.gcd a b)) H):sp_common_divisor K ([.int a,.int b]++[]) H Q E:=⟨a,b,rfl,q⟩
local macro_rules | `(tactic| walk_at "rdc")=>`(tactic| (with_reducible refine c_is_whole ?_))
local macro_rules | `(tactic| walk_at "rdc")=>`(tactic| (with_reducible refine c_common_divisor ?_))
def sp_is_fraction (K:W.Frag):Sp:=fun vs H Q _=>∃ (p:Addr) (a b:Int),vs=[.ref p]∧H p=some (.tup [.int a,.int b])∧1≤b∧Int.gcd a b=1∧Q (.bl true) H
theorem c_is_fraction {K:W.Frag} {p:Addr} {a b:Int} {H:Hp} {Q:VK} {E:XK} (h1:H p=some (.tup [.int a,.int b])) (h2:1≤b) (h3:Int.gcd a b=1) (q:Q (.bl true) H):sp_is_fraction K ([.ref p]++[]) H Q E:=⟨p,a,b,rfl,h1,h2,h3,q⟩
local macro_rules | `(tactic| walk_at "rdc")=>`(tactic| ((with_reducible refine' c_is_fraction ?h1 ?h2 ?h3 ?_);(case h1=>walk_at "hp");(case h2=>omega);(case h3=>assumption)))
def SideI (x:Str):Prop:=Side x∨x = "inside"
structure NumS (fg pl b:Int) (sn:Str) (z:Int) (m pt:Nat) (wy:Str) (wd:Int) (f:Nat) (x:Str):Prop where
 fg1:1≤fg
 fg2:fg≤12
 pl1:0≤pl
 pl2:pl≤6
 b1:2≤b
 b2:b≤16
 sn:Style sn
 z1:0≤z
 z2:z≤9
 m:m < 127
 pt:pt < 127
 wy:Way wy
 wd1:0≤wd
 wd2:wd≤40
 f:f < 127
 x:SideI x
def nmore (fg pl b:Int) (sn:Str) (z:Int) (m pt:Nat) (wy:Str):List (Str × V):=[("figures", .int fg),("places", .int pl),("base", .int b),("sign", .str sn),("size", .int z),("mark", .str (T [m])),("point", .str (T [pt])),("way", .str wy)]
def nns:List Str:=["figures", "places", "base", "sign", "size", "mark", "point", "way"]
section
variable {H : Hp} {a C : Addr} {wd : Int} {f : Nat} {x : Str} {st : Bool} {fg pl b : Int} {sn : Str} {z : Int} {m pt : Nat} {wy : Str}
theorem nm_none {g:Str} (h:g ∉ nns):(nmore fg pl b sn z m pt wy).lookup g=none:=by
 simp only [nns,List.mem_cons,List.not_mem_nil,or_false,not_or] at h
 obtain ⟨h1,h2,h3,h4,h5,h6,h7,h8⟩:=h
 exact (lk_ne h1).trans ((lk_ne h2).trans ((lk_ne h3).trans ((lk_ne h4).trans ((lk_ne h5).trans ((lk_ne h6).trans ((lk_ne h7).trans ((lk_ne h8).trans rfl)))))))
theorem nf_own {g:Str} {v:V} (F:FormAt K H a C wd f x st (nmore fg pl b sn z m pt wy)) (h:g ∉ bns) (l:(nmore fg pl b sn z m pt wy).lookup g=some v) (n:g ∈ nns):FldAt K H a g v:=F.own h l n
theorem nf_figures (F:FormAt K H a C wd f x st (nmore fg pl b sn z m pt wy)):FldAt K H a "figures" (.int fg):=nf_own F (by decide +kernel) lk_eq (by decide +kernel)
theorem nf_places (F:FormAt K H a C wd f x st (nmore fg pl b sn z m pt wy)):FldAt K H a "places" (.int pl):=nf_own F (by decide +kernel) ((lk_ne (by decide +kernel)).trans lk_eq) (by decide +kernel)
theorem nf_base (F:FormAt K H a C wd f x st (nmore fg pl b sn z m pt wy)):FldAt K H a "base" (.int b):=nf_own F (by decide +kernel) ((lk_ne (by decide +kernel)).trans ((lk_ne (by decide +kernel)).trans lk_eq)) (by decide +kernel)
theorem nf_sign (F:FormAt K H a C wd f x st (nmore fg pl b sn z m pt wy)):FldAt K H a "sign" (.str sn):=nf_own F (by decide +kernel) ((lk_ne (by decide +kernel)).trans ((lk_ne (by decide +kernel)).trans ((lk_ne (by decide +kernel)).trans lk_eq))) (by decide +kernel)
theorem nf_size (F:FormAt K H a C wd f x st (nmore fg pl b sn z m pt wy)):FldAt K H a "size" (.int z):=nf_own F (by decide +kernel) ((lk_ne (by decide +kernel)).trans ((lk_ne (by decide +kernel)).trans ((lk_ne (by decide +kernel)).trans ((lk_ne (by decide +kernel)).trans lk_eq)))) (by decide +kernel)
theorem nf_mark (F:FormAt K H a C wd f x st (nmore fg pl b sn z m pt wy)):FldAt K H a "mark" (.str (T [m])):=nf_own F (by decide +kernel) ((lk_ne (by decide +kernel)).trans ((lk_ne (by decide +kernel)).trans ((lk_ne (by decide +kernel)).trans ((lk_ne (by decide +kernel)).trans ((lk_ne (by decide +kernel)).trans lk_eq))))) (by decide +kernel)
theorem nf_point (F:FormAt K H a C wd f x st (nmore fg pl b sn z m pt wy)):FldAt K H a "point" (.str (T [pt])):=nf_own F (by decide +kernel) ((lk_ne (by decide +kernel)).trans ((lk_ne (by decide +kernel)).trans ((lk_ne (by decide +kernel)).trans ((lk_ne (by decide +kernel)).trans ((lk_ne (by decide +kernel)).trans ((lk_ne (by decide +kernel)).trans lk_eq)))))) (by decide +kernel)
theorem nf_way (F:FormAt K H a C wd f x st (nmore fg pl b sn z m pt wy)):FldAt K H a "way" (.str wy):=nf_own F (by decide +kernel) ((lk_ne (by decide +kernel)).trans ((lk_ne (by decide +kernel)).trans ((lk_ne (by decide +kernel)).trans ((lk_ne (by decide +kernel)).trans ((lk_ne (by decide +kernel)).trans ((lk_ne (by decide +kernel)).trans ((lk_ne (by decide +kernel)).trans lk_eq))))))) (by decide +kernel)
theorem nf_meth {g:Str} (F:FormAt K H a C wd f x st (nmore fg pl b sn z m pt wy)) (h0:g ∉ bns) (h1:g ∉ nns):InsM H a C g:=F.meth h0 (nm_none h1)
end
local macro_rules | `(tactic| walk_at "fld2")=>`(tactic| first | (exact nf_figures (by walk_at "fm")) | (exact nf_places (by walk_at "fm")) | (exact nf_base (by walk_at "fm")) | (exact nf_sign (by walk_at "fm")) | (exact nf_size (by walk_at "fm")) | (exact nf_mark (by walk_at "fm")) | (exact nf_point (by walk_at "fm")) | (exact nf_way (by walk_at "fm")))
local macro_rules | `(tactic| walk_at "ins")=>`(tactic| exact nf_meth (by walk_at "fm") (by decide +kernel) (by decide +kernel))
def sp_NumberForm___init__ (K:W.Frag) (C:Addr):Sp:=fun vs H Q _=>∃ (a dx:Addr) (fg pl b:Int) (sn:Str) (z:Int) (m pt:Nat) (wy:Str) (wd:Int) (f:Nat) (x:Str) (st:Bool),vs=[.ref a,.int fg,.int pl,.int b,.str sn,.int z,.str (T [m]),.str (T [pt]),.str wy,.int wd,.str (T [f]),.str x,.bl st]∧H a=some (.ins C dx [])∧Q .non (upd H a (.ins C dx (bfs wd f x st (nmore fg pl b sn z m pt wy))))
def sp_NumberForm_is_too_great (K:W.Frag) (C:Addr):Sp:=fun vs H Q _=>∃ (a:Addr) (fg pl b:Int) (sn:Str) (z:Int) (m pt:Nat) (wy:Str) (wd:Int) (f:Nat) (x:Str) (st:Bool) (n:Int),vs=[.ref a,.int n]∧FormAt K H a C wd f x st (nmore fg pl b sn z m pt wy)∧NumS fg pl b sn z m pt wy wd f x∧Q (.bl (decide (b ^ (fg+pl).toNat≤n))) H
theorem c_too_great {K:W.Frag} {C a:Addr} {fg pl b:Int} {sn:Str} {z:Int} {m pt:Nat} {wy:Str} {wd:Int} {f:Nat} {x:Str} {st:Bool} {n:Int} {H:Hp} {Q:VK} {E:XK} (h1:FormAt K H a C wd f x st (nmore fg pl b sn z m pt wy)) (h2:NumS fg pl b sn z m pt wy wd f x) (q:Q (.bl (decide (b ^ (fg+pl).toNat≤n))) H):sp_NumberForm_is_too_great K C (.ref a::([.int n]++[])) H Q E:=⟨a,fg,pl,b,sn,z,m,pt,wy,wd,f,x,st,n,rfl,h1,h2,q⟩
local macro_rules | `(tactic| walk_at "rdc")=>`(tactic| ((with_reducible refine' c_too_great ?h1 ?h2 ?_);(case h1=>walk_at "fm");(case h2=>assumption)))
def ncore (pl b:Int) (sn:Str) (z:Int) (m pt:Nat) (k:Int):List Nat:=sg sn (decide (k < 0)) (bdI k.natAbs b pl pt z m)
def sp_NumberForm_core (K:W.Frag) (C:Addr):Sp:=fun vs H Q _=>∃ (o p:Addr) (fg pl b:Int) (sn:Str) (z:Int) (m pt:Nat) (wy:Str) (wd:Int) (f:Nat) (x:Str) (st:Bool),vs=[.ref o,.ref p]∧FormAt K H o C wd f x st (nmore fg pl b sn z m pt wy)∧NumS fg pl b sn z m pt wy wd f x∧H p=some (.tup [.int 0,.int 1]) ∧ ∀ H',Same H H'→Q (.str (T (ncore pl b sn z m pt 0))) H'
theorem c_core {K:W.Frag} {C o p:Addr} {fg pl b:Int} {sn:Str} {z:Int} {m pt:Nat} {wy:Str} {wd:Int} {f:Nat} {x:Str} {st:Bool} {H:Hp} {Q:VK} {E:XK} (h1:FormAt K H o C wd f x st (nmore fg pl b sn z m pt wy)) (h2:NumS fg pl b sn z m pt wy wd f x) (h3:H p=some (.tup [.int 0,.int 1])) (q : ∀ H',Same H H'→Q (.str (T (ncore pl b sn z m pt 0))) H'):sp_NumberForm_core K C (.ref o::([.ref p]++[])) H Q E:=⟨o,p,fg,pl,b,sn,z,m,pt,wy,wd,f,x,st,rfl,h1,h2,h3,q⟩
def Isw (sg:List Nat) (lo hi:Int) (t:List Nat):Prop:=(lo≤t.length∧(t.length:Int)≤hi) ∧ ∀ c ∈ t,c ∈ sg
instance (sg:List Nat) (lo hi:Int) (t:List Nat):Decidable (Isw sg lo hi t):=by unfold Isw;infer_instance
def wmore (sg:List Nat) (lo hi:Int):List (Str × V):=[("signs", .str (T sg)),("least", .int lo),("most", .int hi)]
theorem wm_none {sg:List Nat} {lo hi:Int} {m:Str} (h1:m ≠ "signs") (h2:m ≠ "least") (h3:m ≠ "most"):(wmore sg lo hi).lookup m=none:=(lk_ne h1).trans ((lk_ne h2).trans ((lk_ne h3).trans rfl))
section
variable {H : Hp} {a C : Addr} {wd : Int} {f : Nat} {x : Str} {st : Bool} {sg : List Nat} {lo hi : Int}
theorem wf_signs (F:FormAt K H a C wd f x st (wmore sg lo hi)):FldAt K H a "signs" (.str (T sg)):=F.own (by decide +kernel) lk_eq (List.mem_cons_self ..)
theorem wf_least (F:FormAt K H a C wd f x st (wmore sg lo hi)):FldAt K H a "least" (.int lo):=F.own (by decide +kernel) ((lk_ne (by decide +kernel)).trans lk_eq) (List.mem_cons_of_mem _ (List.mem_cons_self ..))
theorem wf_most (F:FormAt K H a C wd f x st (wmore sg lo hi)):FldAt K H a "most" (.int hi):=F.own (by decide +kernel) ((lk_ne (by decide +kernel)).trans ((lk_ne (by decide +kernel)).trans lk_eq)) (List.mem_cons_of_mem _ (List.mem_cons_of_mem _ (List.mem_cons_self ..)))
theorem wf_meth {m:Str} (F:FormAt K H a C wd f x st (wmore sg lo hi)) (h0:m ∉ bns) (h1:m ≠ "signs") (h2:m ≠ "least") (h3:m ≠ "most"):InsM H a C m:=F.meth h0 (wm_none h1 h2 h3)
end
local macro_rules | `(tactic| walk_at "fld2")=>`(tactic| first | (exact wf_signs (by walk_at "fm")) | (exact wf_least (by walk_at "fm")) | (exact wf_most (by walk_at "fm")))
local macro_rules | `(tactic| walk_at "ins")=>`(tactic| exact wf_meth (by walk_at "fm") (by decide +kernel) (by decide +kernel) (by decide +kernel) (by decide +kernel))
def Wr (K:W.Frag) (C:Addr) (H:Hp) (a:Addr) (rest:List (List Nat)):Prop:=∃ (dx L:Addr) (ws:List (List Nat)) (n:Nat),H a=some (.ins C dx (wfs L n))∧H L=some (.lst (tsV ws))∧n≤ws.length∧ws.drop n=rest∧ws.length≤100
theorem Wr.same {K:W.Frag} {C a:Addr} {H H':Hp} {rest:List (List Nat)} (g:Same H H') (h:Wr K C H a rest):Wr K C H' a rest:=let ⟨d,L,ws,n,e1,e2,e3,e4,e5⟩:=h;⟨d,L,ws,n,g.at e1,g.at e2,e3,e4,e5⟩
structure SBW (a:Addr) (H H':Hp):Prop where
 oth:SB a H H'
 own : ∀ C dx L n,H a=some (.ins C dx (wfs L n)) → ∃ n',H' a=some (.ins C dx (wfs L n'))
section
variable {H H' F : Hp} {a p C L dx : Addr} {n : Nat} {rest : List (List Nat)}
theorem SBW.trans (s:SBW a H H') (t:SBW a H' F):SBW a H F:=⟨s.oth.trans t.oth,fun C dx L n e=>let ⟨n1,e1⟩:=s.own C dx L n e;t.own C dx L n1 e1⟩
theorem SBW.of (g:Same H H'):SBW a H H':=⟨SB.of g,fun C dx L n e=>⟨n,g.at e⟩⟩
theorem SBW.then (s:SBW a H H') (g:Same H' F):SBW a H F:=s.trans (.of g)
theorem SBW.refl:SBW a H H:=⟨SB.refl,fun C dx L n e=>⟨n,e⟩⟩
theorem SBW.tup {xs:List V} (s:SBW a H H') (w:Wr K C H a rest) (h:H p=some (.tup xs)):H' p=some (.tup xs):=let ⟨_,_,_,_,e1,_⟩:=w;s.oth p _ (fun z=>by subst z;rw [e1] at h;cases h) h
theorem SBW.lst {xs:List V} (s:SBW a H H') (w:Wr K C H a rest) (h:H p=some (.lst xs)):H' p=some (.lst xs):=let ⟨_,_,_,_,e1,_⟩:=w;s.oth p _ (fun z=>by subst z;rw [e1] at h;cases h) h
theorem wfs_inj {L L':Addr} {n n':Nat} (h:wfs L n=wfs L' n'):L=L':=by
 unfold wfs at h
 simp only [List.cons.injEq,Prod.mk.injEq,V.ref.injEq,and_true,true_and] at h
 exact h.1
theorem SBW.step (e:H a=some (.ins C dx (wfs L n))) {m:Nat}:SBW a H (upd H a (.ins C dx (wfs L m))):=⟨fun b o nb e'=>by rw [upd_ne nb];exact e',fun C' dx' L' n' e'=>by
 rw [e] at e'
 simp only [Option.some.injEq,HO.ins.injEq] at e'
 obtain ⟨rfl,rfl,e3⟩:=e'
 rw [wfs_inj e3]
 exact ⟨m,upd_same⟩⟩
end
local macro_rules | `(tactic| walk_at "rdc")=>`(tactic| first | (with_reducible refine r_notNI ?_) | fail "k51 stops")
local macro_rules | `(tactic| walk_at "fld2")=>`(tactic| first | assumption | (refine FldAt.same (by assumption) ?_;walk_at "fld2"))
def sp_Words___init__ (K:W.Frag) (C:Addr):Sp:=fun vs H Q _=>∃ (a dx L:Addr),vs=[.ref a,.ref L]∧H a=some (.ins C dx [])∧Q .non (upd H a (.ins C dx (wfs L 0)))
def sp_Words_peek (K:W.Frag) (C:Addr):Sp:=fun vs H Q _=>∃ (a:Addr) (t:List Nat) (r:List (List Nat)),vs=[.ref a]∧Wr K C H a (t::r)∧Q (.str (T t)) H
def sp_Words_go_past (K:W.Frag) (C:Addr):Sp:=fun vs H Q _=>∃ (a:Addr) (t:List Nat) (r:List (List Nat)),vs=[.ref a,.bl true]∧Wr K C H a (t::r) ∧ ∀ H',SBW a H H'→Wr K C H' a r→Q .non H'
def sp_Words_has_clause (K:W.Frag) (C:Addr):Sp:=fun vs H Q _=>∃ (a:Addr) (k:List Nat) (r:List (List Nat)),vs=[.ref a,.str (T k)]∧Wr K C H a r∧(∀ r',r=k::r' → ∀ H',SBW a H H'→Wr K C H' a r'→Q (.bl true) H')∧(r.head? ≠ some k→Q (.bl false) H)
theorem c_peek {K:W.Frag} {C a:Addr} {t:List Nat} {r:List (List Nat)} {H:Hp} {Q:VK} {E:XK} (h:Wr K C H a (t::r)) (q:Q (.str (T t)) H):sp_Words_peek K C (.ref a::([]++[])) H Q E:=⟨a,t,r,rfl,h,q⟩
theorem c_go {K:W.Frag} {C a:Addr} {t:List Nat} {r:List (List Nat)} {H:Hp} {Q:VK} {E:XK} (h:Wr K C H a (t::r)) (q : ∀ H',SBW a H H'→Wr K C H' a r→Q .non H'):sp_Words_go_past K C (.ref a::([.bl true]++[])) H Q E:=⟨a,t,r,rfl,h,q⟩
theorem wr_meth {K:W.Frag} {C a:Addr} {r:List (List Nat)} {H:Hp} {m:Str} (h:Wr K C H a r) (h1:m ≠ "words") (h2:m ≠ "at"):InsM H a C m:=let ⟨dx,L,ws,n,e,_⟩:=h;⟨dx,_,e,wf_none h1 h2⟩
theorem ok_Words___init__ {f:Addr} {fd:FuncData} (F:FunD K "__init__" "Words.__init__" s_Words___init__ f fd) (B:Blt mg) {c_Words:Addr}(cl:Cls K c_Words) (na:NoAttrs K c_Words ["words", "at"]):FnOk P w K mg base CX0 1 f fd ["self", "words"] (sp_Words___init__ K c_Words):=by
 refine F.ok sc_Words___init__ (fun vs H Q E h=>?_) (fun cdv A outer s H vs Q E hr h=>?_)
 ·obtain ⟨a,dx,L,rfl,e0,q⟩:=h
  rfl
 obtain ⟨a,dx,L,rfl,e0,q⟩:=h
 refine ⟨_,pss_cons (ps_fld (pv 0) (pv 1) rfl)
  (pss_one (ps_fld (pv 0) (pe_int) rfl)),?_⟩
 walk_at "st"
 walk_at "rd"
 refine r_kSet e0 cl (na.at (by decide +kernel)) (by decide) ?_
 rw [putF_nil]
 walk_at "rd"
 refine r_kSet upd_same cl (na.at (by decide +kernel)) (by show 1 < 1000;decide) ?_
 rw [upd_upd,putF_ne (by decide +kernel),putF_nil]
 walk_at "rd"
 exact q
theorem ok_Words_peek {f:Addr} {fd:FuncData} (F:FunD K "peek" "Words.peek" s_Words_peek f fd) (B:Blt mg) {c_Words:Addr}(cl:Cls K c_Words) (na:NoAttrs K c_Words ["words", "at"]):FnOk P w K mg base CX0 1 f fd ["self"] (sp_Words_peek K c_Words):=by classical
 refine F.ok sc_Words_peek (fun vs H Q E h=>?_) (fun cdv A outer s H vs Q E hr h=>?_)
 ·obtain ⟨a,t,r,rfl,W,q⟩:=h
  rfl
 obtain ⟨a,t,r,rfl,W,q⟩:=h
 refine ⟨_,pss_cons (ps_if (pt_cmpR op_eq (pe_fld (pv 0) rfl) (pe_callBH call_lenN B.z_len rfl bo_len (pa_cons (pe_fld (pv 0) rfl) (pa_nil))) (nomark _)) (pss_one (ps_never)) (pss_nil))
  (pss_one (ps_ret (pe_ix ix_list (pe_fld (pv 0) rfl) (pe_fld (pv 0) rfl) (fun _ _=>rfl)))),?_⟩
 walk_at "st"
 obtain ⟨dx,L,ws,n,e,hl0,hn,hd,hz⟩:=W
 have hl:SqL K H L (tsV ws):=SqL.of hl0
 have lt:n < ws.length:=by
  rcases Nat.lt_or_ge n ws.length with z | z
  ·exact z
  ·rw [List.drop_eq_nil_of_le z] at hd;cases hd
 have fA:FldAt K H a "at" (.int n):=⟨c_Words,dx,_,e,cl,na.at (by decide +kernel),wf_at⟩
 have fW:FldAt K H a "words" (.ref L):=⟨c_Words,dx,_,e,cl,na.at (by decide +kernel),wf_words⟩
 have e2:(ws.getD n [])=t:=by
  rw [List.drop_eq_getElem_cons lt,List.cons.injEq] at hd
  rw [List.getD_eq_getElem?_getD,List.getElem?_eq_getElem lt];exact hd.1
 have tl:(tsV ws).length=ws.length:=List.length_map _
 walk_at "rd"
 rw [Int.toNat_natCast,e2]
 exact q
theorem ok_Words_go_past {f:Addr} {fd:FuncData} (F:FunD K "go_past" "Words.go_past" s_Words_go_past f fd) (B:Blt mg) {c_Words:Addr}(cl:Cls K c_Words) (na:NoAttrs K c_Words ["words", "at"]):FnOk P w K mg base CX0 1 f fd ["self", "can_stand"] (sp_Words_go_past K c_Words):=by
 refine F.ok sc_Words_go_past (fun vs H Q E h=>?_) (fun cdv A outer s H vs Q E hr h=>?_)
 ·obtain ⟨a,t,r,rfl,W,q⟩:=h
  rfl
 obtain ⟨a,t,r,rfl,W,q⟩:=h
 refine ⟨_,pss_cons (ps_if (pt_not (pt_val (pv 1))) (pss_one (ps_never)) (pss_nil))
  (pss_one (ps_fld (pv 0) (pe_op op_add (pe_fld (pv 0) rfl) (pe_int)) rfl)),?_⟩
 walk_at "st"
 obtain ⟨dx,L,ws,n,e,hl0,hn,hd,hz⟩:=W
 have hl:SqL K H L (tsV ws):=SqL.of hl0
 have lt:n < ws.length:=by
  rcases Nat.lt_or_ge n ws.length with z | z
  ·exact z
  ·rw [List.drop_eq_nil_of_le z] at hd;cases hd
 have fA:FldAt K H a "at" (.int n):=⟨c_Words,dx,_,e,cl,na.at (by decide +kernel),wf_at⟩
 walk_at "rd"
 refine r_kSet e cl (na.at (by decide +kernel)) (by show 2 < 1000;decide) ?_
 rw [show ((n:Int)+1)=((n+1:Nat):Int) from by omega,wf_put]
 walk_at "rd"
 refine q _ (SBW.step e) ⟨dx,L,ws,n+1,upd_same,(by rw [upd_ne (fun z=>by subst z;rw [e] at hl0;cases hl0)];exact hl0),lt,?_,hz⟩
 rw [List.drop_eq_getElem_cons lt,List.cons.injEq] at hd
 exact hd.2
theorem ok_Words_has_clause {f:Addr} {fd:FuncData} (F:FunD K "has_clause" "Words.has_clause" s_Words_has_clause f fd) (B:Blt mg) {c_Words:Addr} (cl_Words:Cls K c_Words) (M_Words_peek:HasM P w K mg base CX0 c_Words "peek" 1 ["self"] (sp_Words_peek K c_Words))(cl:Cls K c_Words) (na:NoAttrs K c_Words ["words", "at"]):FnOk P w K mg base CX0 2 f fd ["self", "word"] (sp_Words_has_clause K c_Words):=by classical
 refine F.ok sc_Words_has_clause (fun vs H Q E h=>?_) (fun cdv A outer s H vs Q E hr h=>?_)
 ·obtain ⟨a,k,r,rfl,W,q1,q2⟩:=h
  rfl
 obtain ⟨a,k,r,rfl,W,q1,q2⟩:=h
 refine ⟨_,pss_cons (ps_if (PW.pt (pw_or (pt_cmpR op_eq (pe_fld (pv 0) rfl) (pe_callBH call_lenN B.z_len rfl bo_len (pa_cons (pe_fld (pv 0) rfl) (pa_nil))) (nomark _)) (pw_or1 (pt_cmpR op_ne (pe_methH0 M_Words_peek cl_Words pass0 hr (pv 0)) (pv 1) (nomark _))))) (pss_one (ps_ret (pe_bl))) (pss_nil))
  (pss_cons (ps_fld (pv 0) (pe_op op_add (pe_fld (pv 0) rfl) (pe_int)) rfl)
  (pss_one (ps_ret (pe_bl)))),?_⟩
 walk_at "st"
 have W0:=W
 obtain ⟨dx,L,ws,n,e,hl0,hn,hd,hz⟩:=W
 have hl:SqL K H L (tsV ws):=SqL.of hl0
 have fA:FldAt K H a "at" (.int n):=⟨c_Words,dx,_,e,cl,na.at (by decide +kernel),wf_at⟩
 have fW:FldAt K H a "words" (.ref L):=⟨c_Words,dx,_,e,cl,na.at (by decide +kernel),wf_words⟩
 have tl:(tsV ws).length=ws.length:=List.length_map _
 walk_at "rd"
 ·rename_i hc
  refine q2 ?_
  have:n=ws.length:=by omega
  rw [← hd,this,List.drop_length];intro z;cases z
 ·rename_i hc
  have lt:n < ws.length:=by omega
  have hd':=hd
  rw [List.drop_eq_getElem_cons lt] at hd'
  rw [← hd'] at W0
  refine r_kMeth (wr_meth W0 (by decide +kernel) (by decide +kernel)) ?_
  walk_at "rd"
  refine c_peek W0 ?_
  walk_at "rd"
  ·rename_i hk
   refine r_kSet e cl (na.at (by decide +kernel)) (by show 2 < 1000;decide) ?_
   rw [show ((n:Int)+1)=((n+1:Nat):Int) from by omega,wf_put]
   walk_at "rd"
   have hk':ws[n]=k:=by
    first | exact hk | exact Classical.not_not.mp hk
   refine q1 (ws.drop (n+1)) (by rw [← hd',hk']) _ (SBW.step e) ⟨dx,L,ws,n+1,upd_same,(by rw [upd_ne (fun z=>by subst z;rw [e] at hl0;cases hl0)];exact hl0),lt,rfl,hz⟩
  ·rename_i hk
   refine q2 ?_
   rw [← hd',List.head?_cons]
   intro z
   exact hk (Option.some.inj z)
local macro_rules | `(tactic| walk_at "ins")=>`(tactic| exact wr_meth (by walk_at "wr") (by decide +kernel) (by decide +kernel))
local macro_rules | `(tactic| walk_at "wr")=>`(tactic| first | assumption | (refine Wr.same (by assumption) ?_;walk_at "wr"))
def dw (n:Int):List Nat:=figs 10 n.toNat
def sp_told_number (K:W.Frag):Sp:=fun vs H Q _=>∃ n:Int,vs=[.str (T (dw n))]∧0≤n∧n≤40∧Q (.int n) H
theorem c_told {K:W.Frag} {n:Int} {H:Hp} {Q:VK} {E:XK} (h0:0≤n) (h1:n≤40) (q:Q (.int n) H):sp_told_number K ([.str (T (dw n))]++[]) H Q E:=⟨n,rfl,h0,h1,q⟩
theorem dw_ok {n:Int} (h0:0≤n):FigB 10 (dw n)∧val 10 (dw n)=n∧1≤(dw n).length:=by
 obtain ⟨a,b,c,_⟩:=figs_spec (b:=10) (by decide) (by decide) n.toNat n.toNat (Nat.le_refl _)
 refine ⟨a,?_,figs_pos (by decide)⟩
 unfold dw
 rw [show ((10:Int))=((10:Nat):Int) from rfl,b];omega
def sp_Words_take_number (K:W.Frag) (C:Addr):Sp:=fun vs H Q _=>∃ (a:Addr) (lo hi n:Int) (r:List (List Nat)),vs=[.ref a,.int lo,.int hi]∧Wr K C H a (dw n::r)∧lo≤n∧n≤hi∧0≤n∧n≤40 ∧ ∀ H',SBW a H H'→Wr K C H' a r→Q (.int n) H'
theorem c_tnum {K:W.Frag} {C a:Addr} {lo hi n:Int} {r:List (List Nat)} {H:Hp} {Q:VK} {E:XK} (h:Wr K C H a (dw n::r)) (h1:lo≤n) (h2:n≤hi) (h3:0≤n) (h4:n≤40) (q : ∀ H',SBW a H H'→Wr K C H' a r→Q (.int n) H'):sp_Words_take_number K C (.ref a::([.int lo,.int hi]++[])) H Q E:=⟨a,lo,hi,n,r,rfl,h,h1,h2,h3,h4,q⟩
def sw (c:Nat):List Nat:=if c=32 then Lt "blank" else [c]
def sp_Words_take_sign (K:W.Frag) (C:Addr):Sp:=fun vs H Q _=>∃ (a:Addr) (c:Nat) (r:List (List Nat)),vs=[.ref a]∧Wr K C H a (sw c::r) ∧ ∀ H',SBW a H H'→Wr K C H' a r→Q (.str (T [c])) H'
theorem c_tsign {K:W.Frag} {C a:Addr} {c:Nat} {r:List (List Nat)} {H:Hp} {Q:VK} {E:XK} (h:Wr K C H a (sw c::r)) (q : ∀ H',SBW a H H'→Wr K C H' a r→Q (.str (T [c])) H'):sp_Words_take_sign K C (.ref a::([]++[])) H Q E:=⟨a,c,r,rfl,h,q⟩
def sp_Words_take_one_of (K:W.Frag) (C:Addr):Sp:=fun vs H Q _=>∃ (a p:Addr) (t:List Nat) (ts r:List (List Nat)),vs=[.ref a,.ref p]∧Wr K C H a (t::r)∧(SqL K H p (tsV ts)∨SqT K H p (tsV ts))∧t ∈ ts ∧ ∀ H',SBW a H H'→Wr K C H' a r→Q (.str (T t)) H'
theorem c_tone {K:W.Frag} {C a p:Addr} {t:List Nat} {ts r:List (List Nat)} {H:Hp} {Q:VK} {E:XK} (h:Wr K C H a (t::r)) (h1:SqL K H p (tsV ts)∨SqT K H p (tsV ts)) (h2:t ∈ ts) (q : ∀ H',SBW a H H'→Wr K C H' a r→Q (.str (T t)) H'):sp_Words_take_one_of K C (.ref a::([.ref p]++[])) H Q E:=⟨a,p,t,ts,r,rfl,h,h1,h2,q⟩
theorem ok_told_number {f:Addr} {fd:FuncData} (F:Fun K "told_number" "told_number" s_told_number f fd) (B:Blt mg) (C_number_of:Has P w K mg base "number_of" 1 ["text", "base"] (sp_number_of K)) (C_figures_of:Has P w K mg base "figures_of" 1 ["number", "base"] (sp_figures_of K)):FnOk P w K mg base CX0 2 f fd ["word"] (sp_told_number K):=by
 refine F.ok sc_told_number (fun vs H Q E h=>?_) (fun cdv A outer s H vs Q E hr h=>?_)
 ·obtain ⟨n,rfl,h0,h1,q⟩:=h
  rfl
 obtain ⟨n,rfl,h0,h1,q⟩:=h
 refine ⟨_,pss_cons (ps_tryC (fun _ _ z=>z) (pss_one (ps_set (i:=1) sc_told_number.nd rfl (Or.inl rfl) (pe_callH C_number_of hr rfl (pa_cons (pv 0) (pa_cons (pe_int) (pa_nil)))))))
  (pss_one (ps_ret (pe_ifExp (pt_cmpR op_eq (pe_callH C_figures_of hr rfl (pa_cons (pv 1) (pa_cons (pe_int) (pa_nil)))) (pv 0) (nomark _)) (pv 1) (pe_non)))),?_⟩
 walk_at "st"
 obtain ⟨f1,f2,f3⟩:=dw_ok h0
 have f4:(dw n).length≤240:=figs_240 (by decide) (by omega)
 walk_at "rd"
 refine c_number_of f1 f3 f4 (by decide) (by decide) ?_
 rw [f2]
 walk_at "rd"
 ·exact q
 ·rename_i l' el' f1' f2' f3' f4' f5' hc
  exact absurd el' hc
theorem ok_Words_take_number {f:Addr} {fd:FuncData} (F:FunD K "take_number" "Words.take_number" s_Words_take_number f fd) (B:Blt mg) {c_Words:Addr} (cl_Words:Cls K c_Words) (C_told_number:Has P w K mg base "told_number" 2 ["word"] (sp_told_number K)) (M_Words_go_past:HasM P w K mg base CX0 c_Words "go_past" 1 ["self", "can_stand"] (sp_Words_go_past K c_Words)) (M_Words_peek:HasM P w K mg base CX0 c_Words "peek" 1 ["self"] (sp_Words_peek K c_Words)):FnOk P w K mg base CX0 3 f fd ["self", "least", "most"] (sp_Words_take_number K c_Words):=by
 refine F.ok sc_Words_take_number (fun vs H Q E h=>?_) (fun cdv A outer s H vs Q E hr h=>?_)
 ·obtain ⟨a,lo,hi,n,r,rfl,W,h1,h2,h3,h4,q⟩:=h
  rfl
 obtain ⟨a,lo,hi,n,r,rfl,W,h1,h2,h3,h4,q⟩:=h
 refine ⟨_,pss_cons (ps_set (i:=3) sc_Words_take_number.nd rfl (Or.inl rfl) (pe_callH C_told_number hr rfl (pa_cons (pe_methH0 M_Words_peek cl_Words pass0 hr (pv 0)) (pa_nil))))
  (pss_cons (ps_expr (pe_methH M_Words_go_past cl_Words pass0 hr (pv 0) (pa_cons (pe_and (pe_cmpR op_notN2 (pv 3) (pe_non) (nomark _)) (pe_one (pe_chain op_le op_le (pv 1) (pv 3) (pv 2)))) (pa_nil))))
  (pss_one (ps_ret (pv 3)))),?_⟩
 walk_at "st"
 walk_at "rd"
 refine c_peek W ?_
 walk_at "rd"
 refine c_told h3 h4 ?_
 walk_at "rd"
 rw [decide_eq_true h2]
 refine c_go W fun H1 s1 W1=>?_
 walk_at "rd"
 exact q _ s1 W1
theorem ok_Words_take_sign {f:Addr} {fd:FuncData} (F:FunD K "take_sign" "Words.take_sign" s_Words_take_sign f fd) (B:Blt mg) {c_Words:Addr} (cl_Words:Cls K c_Words) (M_Words_peek:HasM P w K mg base CX0 c_Words "peek" 1 ["self"] (sp_Words_peek K c_Words)) (M_Words_go_past:HasM P w K mg base CX0 c_Words "go_past" 1 ["self", "can_stand"] (sp_Words_go_past K c_Words)):FnOk P w K mg base CX0 2 f fd ["self"] (sp_Words_take_sign K c_Words):=by classical
 refine F.ok sc_Words_take_sign (fun vs H Q E h=>?_) (fun cdv A outer s H vs Q E hr h=>?_)
 ·obtain ⟨a,c,r,rfl,W,q⟩:=h
  rfl
 obtain ⟨a,c,r,rfl,W,q⟩:=h
 refine ⟨_,pss_cons (ps_set (i:=1) sc_Words_take_sign.nd rfl (Or.inl rfl) (pe_methH0 M_Words_peek cl_Words pass0 hr (pv 0)))
  (pss_cons (ps_expr (pe_methH M_Words_go_past cl_Words pass0 hr (pv 0) (pa_cons (pe_or (pe_cmpR op_eq (pv 1) (pe_strT (l:=[98,108,97,110,107]) (by decide +kernel)) (nomark _)) (pe_one (pe_cmpR op_eq (pe_callBH call_lenT B.z_len rfl bo_len (pa_cons (pv 1) (pa_nil))) (pe_int) (nomark _)))) (pa_nil))))
  (pss_one (ps_ret (pe_ifExp (pt_cmpR op_eq (pv 1) (pe_strT (l:=[98,108,97,110,107]) (by decide +kernel)) (nomark _)) (pe_strT (l:=[32]) (by decide +kernel)) (pv 1))))),?_⟩
 walk_at "st"
 by_cases z:c=32
 ·subst z
  rw [show sw 32=[98,108,97,110,107] from by decide +kernel] at W
  walk_at "rd"
  refine c_peek W ?_
  walk_at "rd"
  refine c_go W fun H1 s1 W1=>?_
  walk_at "rd"
  exact q _ s1 W1
 ·rw [show sw c=[c] from if_neg z] at W
  walk_at "rd"
  refine c_peek W ?_
  have nb:[c]≠[98,108,97,110,107]:=fun h=>by have:=congrArg List.length h;simp at this
  walk_at "rd"
  rw [show decide ((([c].length:Nat):Int)=1)=true from rfl]
  refine c_go W fun H1 s1 W1=>?_
  walk_at "rd"
  exact q _ s1 W1
theorem ok_Words_take_one_of {f:Addr} {fd:FuncData} (F:FunD K "take_one_of" "Words.take_one_of" s_Words_take_one_of f fd) (B:Blt mg) {c_Words:Addr} (cl_Words:Cls K c_Words) (M_Words_peek:HasM P w K mg base CX0 c_Words "peek" 1 ["self"] (sp_Words_peek K c_Words)) (M_Words_go_past:HasM P w K mg base CX0 c_Words "go_past" 1 ["self", "can_stand"] (sp_Words_go_past K c_Words)):FnOk P w K mg base CX0 2 f fd ["self", "choices"] (sp_Words_take_one_of K c_Words):=by
 refine F.ok sc_Words_take_one_of (fun vs H Q E h=>?_) (fun cdv A outer s H vs Q E hr h=>?_)
 ·obtain ⟨a,p,t,ts,r,rfl,W,hs,ht,q⟩:=h
  rfl
 obtain ⟨a,p,t,ts,r,rfl,W,hs,ht,q⟩:=h
 refine ⟨_,pss_cons (ps_set (i:=2) sc_Words_take_one_of.nd rfl (Or.inl rfl) (pe_methH0 M_Words_peek cl_Words pass0 hr (pv 0)))
  (pss_cons (ps_expr (pe_methH M_Words_go_past cl_Words pass0 hr (pv 0) (pa_cons (pe_cmpR op_in_seq (pv 2) (pv 1) (by with_unfolding_all rfl)) (pa_nil))))
  (pss_one (ps_ret (pv 2)))),?_⟩
 walk_at "st"
 walk_at "rd"
 refine c_peek W ?_
 walk_at "rd"
 refine ⟨p,_,rfl,hs,rfl,flat_ts ts,?_⟩
 rw [show (if false=true then !inV (.str (T t)) (tsV ts) else inV (.str (T t)) (tsV ts))=true from by rw [if_neg (by decide),inV_ts];exact decide_eq_true ht]
 walk_at "rd"
 refine c_go W fun H1 s1 W1=>?_
 walk_at "rd"
 exact q _ s1 W1
def lwrS:Str:="abcdefghijklmnopqrstuvwxyz"
def uppS:Str:="ABCDEFGHIJKLMNOPQRSTUVWXYZ"
def fgsS:Str:="0123456789"
def allS:Str:="!\"#$&'()*+,-./0123456789:;<=>?@ABCDEFGHIJKLMNOPQRSTUVWXYZ[\\]^_`abcdefghijklmnopqrstuvwxyz{|}~"
def KName (n v:Str):Prop:=(n = "lower" ∧ v=lwrS)∨(n = "upper" ∧ v=uppS)∨(n = "figures" ∧ v=fgsS)∨(n = "all" ∧ v=allS)
structure SgSets (w:World) (K:W.Frag) (d:Addr):Prop where
 get : ∀ n v,KName n v→KDt w K d n v
 has : ∀ n v,KName n v→KDi w K d n true
 no : ∀ l:List Nat,KDi w K d (T (61::l)) false
def Ris (l:List Nat):Prop:=∀ i,i+1 < l.length→l.getD i 0 < l.getD (i+1) 0
def sp_is_rising (K:W.Frag):Sp:=fun vs H Q _=>∃ l:List Nat,vs=[.str (T l)]∧1≤l.length∧l.length≤200∧Ris l ∧ ∀ H',Same H H'→Q (.bl true) H'
theorem c_rising {K:W.Frag} {l:List Nat} {H:Hp} {Q:VK} {E:XK} (h1:1≤l.length) (h2:l.length≤200) (h3:Ris l) (q : ∀ H',Same H H'→Q (.bl true) H'):sp_is_rising K ([.str (T l)]++[]) H Q E:=⟨l,rfl,h1,h2,h3,q⟩
theorem ltT_one {a b:Nat} (h:a < b):ltT [a] [b]=true:=decide_eq_true (List.cons_lt_cons_iff.mpr (.inl h))
local macro_rules | `(tactic| walk_at "rdc")=>`(tactic| (with_reducible refine r_ltT ?_))
theorem ok_is_rising {f:Addr} {fd:FuncData} (F:Fun K "is_rising" "is_rising" s_is_rising f fd) (B:Blt mg):FnOk P w K mg base CX0 1 f fd ["signs"] (sp_is_rising K):=by classical
 refine F.ok sc_is_rising (fun vs H Q E h=>?_) (fun cdv A outer s H vs Q E hr h=>?_)
 ·obtain ⟨l,rfl,h1,h2,hr,q⟩:=h
  rfl
 obtain ⟨l,rfl,h1,h2,hr,q⟩:=h
 refine ⟨_,pss_one (ps_ret (pe_callBH (call_allB rfl) B.z_all rfl bo_all (pa_cons (pe_comp (cl:=[("signs", s.heap.objs.size+1+0)]) (fr:=["signs"]) (is:=[0]) rfl rfl ⟨rfl,trivial⟩ rfl ⟨⟨rfl,rfl,Or.inl rfl⟩,trivial⟩ (by decide) (by decide +kernel) rfl (by decide +kernel) rfl (pi_range1 rfl B.z_range (pa_cons (pe_op op_sub (pe_callBH call_lenT B.z_len rfl bo_len (pa_cons (pv 0) (pa_nil))) (pe_int)) (pa_nil))) (fun _ _ _ _=>pifs_nil) (fun _ _ _ _=>pe_cmpR op_ltS (pe_ix ix_str (pv 1) (pv 0) (fun _ _=>rfl)) (pe_ix ix_str (pv 1) (pe_op op_add (pv 0) (pe_int)) (fun _ _=>rfl)) (nomark _))) (pa_nil)))),?_⟩
 walk_at "st"
 walk_at "rd"
 refine r_kCompR (by omega) (by omega) (Nat.le_of_lt (small1000 (by omega))) (fun i ys H'=>H'=H∧ys=(List.replicate i true).map V.bl) ⟨rfl,rfl⟩ (fun i ys H' _ h=>by rw [h.2];simp) ?_ ?_
 ·rintro i ys H' hi ⟨rfl,rfl⟩
  have hlt:=hr i (by omega)
  walk_at "rd"
  rw [show (0+(i:Int)).toNat=i by omega,show (0+(i:Int)+1).toNat=i+1 by omega,ltT_one hlt]
  exact nxC hi ⟨rfl,by rw [List.replicate_succ',List.map_append];rfl⟩
 ·rintro ys H' ⟨rfl,rfl⟩ p1 H1 g1 e1
  walk_at "rd"
  rw [show (List.replicate ((l.length:Int) - 1).toNat true).all id=true from by simp]
  exact q _ g1
def SgW (wd sg:List Nat):Prop:=(∃ n v:Str,KName n v∧wd=Lt n∧sg=Lt v)∨(wd=61::sg∧1≤sg.length∧sg.length≤200∧Ris sg)
def sp_told_signs (K:W.Frag):Sp:=fun vs H Q _=>∃ wd sg:List Nat,vs=[.str (T wd)]∧SgW wd sg ∧ ∀ H',Same H H'→Q (.str (T sg)) H'
theorem c_tsigns {K:W.Frag} {wd sg:List Nat} {H:Hp} {Q:VK} {E:XK} (h:SgW wd sg) (q : ∀ H',Same H H'→Q (.str (T sg)) H'):sp_told_signs K ([.str (T wd)]++[]) H Q E:=⟨wd,sg,rfl,h,q⟩
theorem ok_told_signs {f:Addr} {fd:FuncData} (F:Fun K "told_signs" "told_signs" s_told_signs f fd) (B:Blt mg) (C_is_rising:Has P w K mg base "is_rising" 1 ["signs"] (sp_is_rising K)) {t_SIGN_SETS:Addr} (g_SIGN_SETS:mg "SIGN_SETS" = some (.ref t_SIGN_SETS))(ss:SgSets w K t_SIGN_SETS):FnOk P w K mg base CX0 2 f fd ["word"] (sp_told_signs K):=by classical
 refine F.ok sc_told_signs (fun vs H Q E h=>?_) (fun cdv A outer s H vs Q E hr h=>?_)
 ·obtain ⟨wd,sg,rfl,h,q⟩:=h
  rfl
 obtain ⟨wd,sg,rfl,h,q⟩:=h
 refine ⟨_,pss_cons (ps_if (pt_cmpR op_inD (pv 0) (pe_glob rfl g_SIGN_SETS (v:=.ref t_SIGN_SETS) rfl) (by with_unfolding_all rfl)) (pss_one (ps_ret (pe_ix ix_kdt (pe_glob rfl g_SIGN_SETS (v:=.ref t_SIGN_SETS) rfl) (pv 0) (fun _ _=>rfl)))) (pss_nil))
  (pss_cons (ps_set (i:=1) sc_told_signs.nd rfl (Or.inl rfl) (pe_slice sl_str (pv 0) (po_some (pe_int)) (po_none)))
  (pss_cons (ps_if (PW.pt (pw_or (pt_not (pt_val (pe_bm PySem.F.plainAttrs_str PySem.F.slot_str_startswith PySem.F.type_str_startswith mt_startswithT (pv 0) (pa_cons (pe_strT (l:=[61]) (by decide +kernel)) (pa_nil))))) (pw_or1 (pt_cmpR op_eq (pv 1) (pe_strT (l:=[]) (by decide +kernel)) (nomark _))))) (pss_one (ps_ret (pe_non))) (pss_nil))
  (pss_one (ps_ret (pe_ifExp (pt_val (pe_callH C_is_rising hr rfl (pa_cons (pv 1) (pa_nil)))) (pv 1) (pe_non)))))),?_⟩
 walk_at "st"
 rcases h with ⟨n,v,hk,rfl,rfl⟩ | ⟨rfl,l1,l2,hr⟩
 ·rw [T_Lt] at *
  walk_at "rd"
  refine r_inD (ss.has n v hk) ?_
  walk_at "rd"
  refine r_ixDt (ss.get n v hk) ?_
  exact q _ (Same.refl _)
 ·walk_at "rd"
  refine r_inD (ss.no sg) ?_
  walk_at "rd"
  ·rename_i c1 c2
   have c3:sg=[]:=of_decide_eq_true c2
   rw [c3] at l1;exact absurd l1 (by decide)
  ·refine c_rising (l:=sg) l1 l2 hr fun H1 g1=>?_
   walk_at "rd"
   exact q _ g1
  ·rename_i c1
   exact absurd rfl c1
def sp_Words_take_signs (K:W.Frag) (C:Addr):Sp:=fun vs H Q _=>∃ (a:Addr) (wd sg:List Nat) (r:List (List Nat)),vs=[.ref a]∧Wr K C H a (wd::r)∧SgW wd sg ∧ ∀ H',SBW a H H'→Wr K C H' a r→Q (.str (T sg)) H'
theorem c_tsgs {K:W.Frag} {C a:Addr} {wd sg:List Nat} {r:List (List Nat)} {H:Hp} {Q:VK} {E:XK} (h:Wr K C H a (wd::r)) (h1:SgW wd sg) (q : ∀ H',SBW a H H'→Wr K C H' a r→Q (.str (T sg)) H'):sp_Words_take_signs K C (.ref a::([]++[])) H Q E:=⟨a,wd,sg,r,rfl,h,h1,q⟩
def sp_Words_take_name (K:W.Frag) (C:Addr):Sp:=fun vs H Q _=>∃ (a L:Addr) (t:List Nat) (ns r:List (List Nat)),vs=[.ref a,.ref L]∧Wr K C H a (t::r)∧SqL K H L (tsV ns)∧1≤t.length∧t.length≤12∧t ∉ ns ∧ ∀ H',SBW a H H'→Wr K C H' a r→Q (.str (T t)) H'
theorem c_tname {K:W.Frag} {C a L:Addr} {t:List Nat} {ns r:List (List Nat)} {H:Hp} {Q:VK} {E:XK} (h:Wr K C H a (t::r)) (h1:SqL K H L (tsV ns)) (h2:1≤t.length) (h3:t.length≤12) (h4:t ∉ ns) (q : ∀ H',SBW a H H'→Wr K C H' a r→Q (.str (T t)) H'):sp_Words_take_name K C (.ref a::([.ref L]++[])) H Q E:=⟨a,L,t,ns,r,rfl,h,h1,h2,h3,h4,q⟩
theorem r_notNS {z:Str} {H:Hp} {Q:VK} (q:Q (.bl true) H):rNotN (.str z) .non H Q:=⟨rfl,by rw [decide_eq_false (fun z=>nomatch z)];exact q⟩
theorem ok_Words_take_signs {f:Addr} {fd:FuncData} (F:FunD K "take_signs" "Words.take_signs" s_Words_take_signs f fd) (B:Blt mg) {c_Words:Addr} (cl_Words:Cls K c_Words) (C_told_signs:Has P w K mg base "told_signs" 2 ["word"] (sp_told_signs K)) (M_Words_go_past:HasM P w K mg base CX0 c_Words "go_past" 1 ["self", "can_stand"] (sp_Words_go_past K c_Words)) (M_Words_peek:HasM P w K mg base CX0 c_Words "peek" 1 ["self"] (sp_Words_peek K c_Words)):FnOk P w K mg base CX0 3 f fd ["self"] (sp_Words_take_signs K c_Words):=by
 refine F.ok sc_Words_take_signs (fun vs H Q E h=>?_) (fun cdv A outer s H vs Q E hr h=>?_)
 ·obtain ⟨a,wd,sg,r,rfl,W,h1,q⟩:=h
  rfl
 obtain ⟨a,wd,sg,r,rfl,W,h1,q⟩:=h
 refine ⟨_,pss_cons (ps_set (i:=1) sc_Words_take_signs.nd rfl (Or.inl rfl) (pe_callH C_told_signs hr rfl (pa_cons (pe_methH0 M_Words_peek cl_Words pass0 hr (pv 0)) (pa_nil))))
  (pss_cons (ps_expr (pe_methH M_Words_go_past cl_Words pass0 hr (pv 0) (pa_cons (pe_cmpR op_notN2 (pv 1) (pe_non) (nomark _)) (pa_nil))))
  (pss_one (ps_ret (pv 1)))),?_⟩
 walk_at "st"
 walk_at "rd"
 refine c_peek W ?_
 walk_at "rd"
 refine c_tsigns h1 fun H1 g1=>?_
 have W1:=W.same g1
 walk_at "rd"
 refine r_notNS ?_
 walk_at "rd"
 refine c_go W1 fun H2 s2 W2=>?_
 walk_at "rd"
 exact q _ ((SBW.of g1).trans s2) W2
theorem ok_Words_take_name {f:Addr} {fd:FuncData} (F:FunD K "take_name" "Words.take_name" s_Words_take_name f fd) (B:Blt mg) {c_Words:Addr} (cl_Words:Cls K c_Words) (M_Words_peek:HasM P w K mg base CX0 c_Words "peek" 1 ["self"] (sp_Words_peek K c_Words)) (M_Words_go_past:HasM P w K mg base CX0 c_Words "go_past" 1 ["self", "can_stand"] (sp_Words_go_past K c_Words)):FnOk P w K mg base CX0 2 f fd ["self", "names"] (sp_Words_take_name K c_Words):=by
 refine F.ok sc_Words_take_name (fun vs H Q E h=>?_) (fun cdv A outer s H vs Q E hr h=>?_)
 ·obtain ⟨a,L,t,ns,r,rfl,W,hL,h2,h3,h4,q⟩:=h
  rfl
 obtain ⟨a,L,t,ns,r,rfl,W,hL,h2,h3,h4,q⟩:=h
 refine ⟨_,pss_cons (ps_set (i:=2) sc_Words_take_name.nd rfl (Or.inl rfl) (pe_methH0 M_Words_peek cl_Words pass0 hr (pv 0)))
  (pss_cons (ps_expr (pe_methH M_Words_go_past cl_Words pass0 hr (pv 0) (pa_cons (pe_and (pe_chain op_le op_le (pe_int) (pe_callBH call_lenT B.z_len rfl bo_len (pa_cons (pv 2) (pa_nil))) (pe_int)) (pe_one (pe_cmpR op_notIn_seq (pv 2) (pv 1) (by with_unfolding_all rfl)))) (pa_nil))))
  (pss_one (ps_ret (pv 2)))),?_⟩
 walk_at "st"
 walk_at "rd"
 refine c_peek W ?_
 walk_at "rd"
 rw [decide_eq_false h4]
 refine c_go W fun H1 s1 W1=>?_
 walk_at "rd"
 exact q _ s1 W1
abbrev k_base:List Nat:=[98,97,115,101]
abbrev k_sign:List Nat:=[115,105,103,110]
abbrev k_groups:List Nat:=[103,114,111,117,112,115]
abbrev k_point:List Nat:=[112,111,105,110,116]
abbrev k_way:List Nat:=[119,97,121]
abbrev k_width:List Nat:=[119,105,100,116,104]
abbrev k_fill:List Nat:=[102,105,108,108]
abbrev k_side:List Nat:=[115,105,100,101]
abbrev k_strict:List Nat:=[115,116,114,105,99,116]
abbrev k_number:List Nat:=[110,117,109,98,101,114]
def opt (c:Bool) (l:List (List Nat)):List (List Nat):=if c=true then l else []
theorem opt_t {l:List (List Nat)}:opt true l=l:=rfl
theorem opt_f {l:List (List Nat)}:opt false l=[]:=rfl
theorem hd_opt {c:Bool} {k:List Nat} {l r:List (List Nat)} {x:List Nat} (h1:x≠k) (h2:r.head? ≠ some x):(opt c (k::l)++r).head? ≠ some x:=by
 cases c with
 | true=>rw [opt_t,List.cons_append,List.head?_cons];intro z;exact h1 (Option.some.inj z).symm
 | false=>rw [opt_f,List.nil_append];exact h2
theorem c_has {K:W.Frag} {C a:Addr} {k:List Nat} {c:Bool} {l r:List (List Nat)} {H:Hp} {Q:VK} {E:XK} (h:Wr K C H a (opt c (k::l)++r)) (hr:r.head? ≠ some k) (q1:c=true → ∀ H',SBW a H H'→Wr K C H' a (l++r)→Q (.bl true) H') (q2:c=false→Wr K C H a r→Q (.bl false) H):sp_Words_has_clause K C (.ref a::([.str (T k)]++[])) H Q E:=by
 cases c with
 | true=>exact ⟨a,k,_,rfl,h,fun r' e H' s w=>q1 rfl H' s (by rw [opt_t,List.cons_append,List.cons.injEq] at e;rw [e.2];exact w),fun z=>absurd (by rw [opt_t,List.cons_append,List.head?_cons]) z⟩
 | false=>exact ⟨a,k,_,rfl,h,fun r' e H' s w=>absurd (by rw [opt_f,List.nil_append] at e;rw [e,List.head?_cons]) hr,fun _=>q2 rfl h⟩
def sp_read_last (K:W.Frag) (C:Addr):Sp:=fun vs H Q _=>∃ (a p:Addr) (ss:List (List Nat)) (d x:Str) (wd:Int) (f:Nat) (cf cs st:Bool),vs=[.ref a,.ref p,.str d]∧SqT K H p (tsV ss)∧0≤wd∧wd≤40∧Lt x ∈ ss∧(cf=false→f=32)∧(cs=false→x=d) ∧
 Wr K C H a (opt (decide (0 < wd)) [k_width,dw wd]++(opt cf [k_fill,sw f]++(opt cs [k_side,Lt x]++(opt st [k_strict]++[])))) ∧ ∀ p H',SBW a H H'→Wr K C H' a []→H' p=some (.tup [.int wd,.str (T [f]),.str x,.bl st])→Q (.ref p) H'
theorem sqt_sb {K:W.Frag} {C a p:Addr} {H H':Hp} {xs:List V} {r:List (List Nat)} (s:SBW a H H') (w:Wr K C H a r) (h:SqT K H p xs):SqT K H' p xs:=by
 obtain ⟨d,L,ws,n,e1,_⟩:=w
 rcases h with (h | ⟨o,h⟩) | h
 ·exact .inl (.inl (s.oth p _ (fun z=>by subst z;rw [e1] at h;cases h) h))
 ·exact .inl (.inr ⟨o,s.oth p _ (fun z=>by subst z;rw [e1] at h;cases h) h⟩)
 ·exact .inr h
theorem ok_read_last {f:Addr} {fd:FuncData} (F:Fun K "read_last" "read_last" s_read_last f fd) (B:Blt mg) {c_Words:Addr} (cl_Words:Cls K c_Words) (M_Words_has_clause:HasM P w K mg base CX0 c_Words "has_clause" 2 ["self", "word"] (sp_Words_has_clause K c_Words)) (M_Words_take_number:HasM P w K mg base CX0 c_Words "take_number" 3 ["self", "least", "most"] (sp_Words_take_number K c_Words)) (M_Words_take_sign:HasM P w K mg base CX0 c_Words "take_sign" 2 ["self"] (sp_Words_take_sign K c_Words)) (M_Words_take_one_of:HasM P w K mg base CX0 c_Words "take_one_of" 2 ["self", "choices"] (sp_Words_take_one_of K c_Words)):FnOk P w K mg base CX0 4 f fd ["words", "sides", "side"] (sp_read_last K c_Words):=by classical
 refine F.ok sc_read_last (fun vs H Q E h=>?_) (fun cdv A outer s H vs Q E hr h=>?_)
 ·obtain ⟨a,p,ss,d,x,wd,f,cf,cs,st,rfl,hp,h0,h1,hx,e1,e2,W,q⟩:=h
  rfl
 obtain ⟨a,p,ss,d,x,wd,f,cf,cs,st,rfl,hp,h0,h1,hx,e1,e2,W,q⟩:=h
 refine ⟨_,pss_cons (ps_set (i:=3) sc_read_last.nd rfl (Or.inl rfl) (pe_ifExp (pt_val (pe_methH M_Words_has_clause cl_Words pass0 hr (pv 0) (pa_cons (pe_strT (l:=[119,105,100,116,104]) (by decide +kernel)) (pa_nil)))) (pe_methH M_Words_take_number cl_Words pass0 hr (pv 0) (pa_cons (pe_int) (pa_cons (pe_int) (pa_nil)))) (pe_int)))
  (pss_cons (ps_set (i:=4) sc_read_last.nd rfl (Or.inl rfl) (pe_ifExp (pt_val (pe_methH M_Words_has_clause cl_Words pass0 hr (pv 0) (pa_cons (pe_strT (l:=[102,105,108,108]) (by decide +kernel)) (pa_nil)))) (pe_methH0 M_Words_take_sign cl_Words pass0 hr (pv 0)) (pe_strT (l:=[32]) (by decide +kernel))))
  (pss_cons (ps_if (pt_val (pe_methH M_Words_has_clause cl_Words pass0 hr (pv 0) (pa_cons (pe_strT (l:=[115,105,100,101]) (by decide +kernel)) (pa_nil)))) (pss_one (ps_set (i:=2) sc_read_last.nd rfl (Or.inl rfl) (pe_methH M_Words_take_one_of cl_Words pass0 hr (pv 0) (pa_cons (pv 1) (pa_nil))))) (pss_nil))
  (pss_one (ps_ret (pe_tup (pa_cons (pv 3) (pa_cons (pv 4) (pa_cons (pv 2) (pa_cons (pe_methH M_Words_has_clause cl_Words pass0 hr (pv 0) (pa_cons (pe_strT (l:=[115,116,114,105,99,116]) (by decide +kernel)) (pa_nil))) (pa_nil)))))))))),?_⟩
 walk_at "st"
 have n0 : ∀ k:List Nat,([]:List (List Nat)).head? ≠ some k:=fun k z=>by cases z
 have n1 : ∀ k:List Nat,k≠k_strict→(opt st [k_strict]++[]).head? ≠ some k:=fun k h=>hd_opt h (n0 k)
 have n2 : ∀ k:List Nat,k≠k_strict→k≠k_side→(opt cs [k_side,Lt x]++(opt st [k_strict]++[])).head? ≠ some k:=fun k h h'=>hd_opt h' (n1 k h)
 have n3 : ∀ k:List Nat,k≠k_strict→k≠k_side→k≠k_fill→(opt cf [k_fill,sw f]++(opt cs [k_side,Lt x]++(opt st [k_strict]++[]))).head? ≠ some k:=fun k h h' h''=>hd_opt h'' (n2 k h h')
 refine r_seqJ (fun σ' H'=>σ'=[some (.ref a),some (.ref p),some (.str d),some (.int wd),none]∧SBW a H H'∧SqT K H' p (tsV ss)∧Wr K c_Words H' a (opt cf [k_fill,sw f]++(opt cs [k_side,Lt x]++(opt st [k_strict]++[])))) (fun σ1 H1 h=>?_) (fun R hR=>?_)
 ·obtain ⟨rfl,s1,hp1,W1⟩:=h
  clear W
  refine r_seqJ (fun σ' H'=>σ'=[some (.ref a),some (.ref p),some (.str d),some (.int wd),some (.str (T [f]))]∧SBW a H H'∧SqT K H' p (tsV ss)∧Wr K c_Words H' a (opt cs [k_side,Lt x]++(opt st [k_strict]++[]))) (fun σ2 H2 h=>?_) (fun R hR=>?_)
  ·obtain ⟨rfl,s2,hp2,W2⟩:=h
   clear W1 s1 hp1
   refine r_seqJ (fun σ' H'=>σ'=[some (.ref a),some (.ref p),some (.str x),some (.int wd),some (.str (T [f]))]∧SBW a H H'∧Wr K c_Words H' a (opt st [k_strict]++[])) (fun σ3 H3 h=>?_) (fun R hR=>?_)
   ·obtain ⟨rfl,s3,W3⟩:=h
    clear W2 s2 hp2
    walk_at "rd"
    refine c_has W3 (n0 _) (fun hc H4 s4 W4=>?_) (fun hc W4=>?_)
    ·walk_at "rd"
     rename_i p5 H5 g5 e5
     subst hc
     exact q _ _ ((s3.trans s4).then g5) (W4.same g5) e5
    ·walk_at "rd"
     rename_i p5 H5 g5 e5
     subst hc
     exact q _ _ (s3.then g5) (W4.same g5) e5
   ·walk_at "rd"
    refine c_has W2 (n1 _ (by decide)) (fun hc H4 s4 W4=>?_) (fun hc W4=>?_)
    ·walk_at "rd"
     refine c_tone W4 (.inr (sqt_sb s4 W2 hp2)) hx fun H5 s5 W5=>?_
     rw [T_Lt]
     walk_at "rd"
     exact hR _ _ ⟨rfl,s2.trans (s4.trans s5),W5⟩
    ·walk_at "rd"
     have:=e2 hc
     subst this
     exact hR _ _ ⟨rfl,s2,W4⟩
  ·walk_at "rd"
   refine c_has W1 (n2 _ (by decide) (by decide)) (fun hc H2 s2 W2=>?_) (fun hc W2=>?_)
   ·walk_at "rd"
    refine c_tsign W2 fun H3 s3 W3=>?_
    walk_at "rd"
    exact hR _ _ ⟨rfl,s1.trans (s2.trans s3),sqt_sb s3 W2 (sqt_sb s2 W1 hp1),W3⟩
   ·walk_at "rd"
    have:=e1 hc
    subst this
    exact hR _ _ ⟨rfl,s1,hp1,W2⟩
 ·walk_at "rd"
  refine c_has W (n3 _ (by decide) (by decide) (by decide)) (fun hc H1 s1 W1=>?_) (fun hc W1=>?_)
  ·walk_at "rd"
   refine c_tnum W1 (by have:=of_decide_eq_true hc;omega) h1 h0 h1 fun H2 s2 W2=>?_
   walk_at "rd"
   exact hR _ _ ⟨rfl,s1.trans s2,sqt_sb s2 W1 (sqt_sb s1 W hp),W2⟩
  ·walk_at "rd"
   have w0:wd=0:=by have:=of_decide_eq_false hc;omega
   subst w0
   exact hR _ _ ⟨rfl,SBW.refl,hp,W1⟩
def sp_read_groups (K:W.Frag) (C:Addr):Sp:=fun vs H Q _=>∃ (a:Addr) (z:Int) (m:Nat) (r:List (List Nat)),vs=[.ref a]∧0≤z∧z≤9∧Wr K C H a (opt (decide (0 < z)) [k_groups,dw z,sw m]++r)∧r.head? ≠ some k_groups ∧ ∀ p m' H',SBW a H H'→Wr K C H' a r→H' p=some (.tup [.int z,.str (T [m'])])→(0 < z→m'=m)→(m'=m∨m'=44)→Q (.ref p) H'
theorem side_in {x:Str} (h:SideI x):Lt x ∈ [Lt "left", Lt "right", Lt "middle", Lt "inside"]:=by
 rcases h with (rfl | rfl | rfl) | rfl
 ·exact List.mem_cons_self ..
 ·exact List.mem_cons_of_mem _ (List.mem_cons_self ..)
 ·exact List.mem_cons_of_mem _ (List.mem_cons_of_mem _ (List.mem_cons_self ..))
 ·exact List.mem_cons_of_mem _ (List.mem_cons_of_mem _ (List.mem_cons_of_mem _ (List.mem_cons_self ..)))
theorem ok_read_groups {f:Addr} {fd:FuncData} (F:Fun K "read_groups" "read_groups" s_read_groups f fd) (B:Blt mg) {c_Words:Addr} (cl_Words:Cls K c_Words) (M_Words_take_number:HasM P w K mg base CX0 c_Words "take_number" 3 ["self", "least", "most"] (sp_Words_take_number K c_Words)) (M_Words_has_clause:HasM P w K mg base CX0 c_Words "has_clause" 2 ["self", "word"] (sp_Words_has_clause K c_Words)) (M_Words_take_sign:HasM P w K mg base CX0 c_Words "take_sign" 2 ["self"] (sp_Words_take_sign K c_Words)):FnOk P w K mg base CX0 4 f fd ["words"] (sp_read_groups K c_Words):=by classical
 refine F.ok sc_read_groups (fun vs H Q E h=>?_) (fun cdv A outer s H vs Q E hr h=>?_)
 ·obtain ⟨a,z,m,r,rfl,h0,h1,W,hh,q⟩:=h
  rfl
 obtain ⟨a,z,m,r,rfl,h0,h1,W,hh,q⟩:=h
 refine ⟨_,pss_cons (ps_if (pt_not (pt_val (pe_methH M_Words_has_clause cl_Words pass0 hr (pv 0) (pa_cons (pe_strT (l:=[103,114,111,117,112,115]) (by decide +kernel)) (pa_nil))))) (pss_one (ps_ret (pe_tup (pa_cons (pe_int) (pa_cons (pe_strT (l:=[44]) (by decide +kernel)) (pa_nil)))))) (pss_nil))
  (pss_cons (ps_set (i:=1) sc_read_groups.nd rfl (Or.inl rfl) (pe_methH M_Words_take_number cl_Words pass0 hr (pv 0) (pa_cons (pe_int) (pa_cons (pe_int) (pa_nil)))))
  (pss_one (ps_ret (pe_tup (pa_cons (pv 1) (pa_cons (pe_methH0 M_Words_take_sign cl_Words pass0 hr (pv 0)) (pa_nil))))))),?_⟩
 walk_at "st"
 walk_at "rd"
 refine c_has W hh (fun hc H1 s1 W1=>?_) (fun hc W1=>?_)
 ·walk_at "rd"
  refine c_tnum W1 (by have:=of_decide_eq_true hc;omega) h1 h0 (by omega) fun H2 s2 W2=>?_
  walk_at "rd"
  refine c_tsign W2 fun H3 s3 W3=>?_
  walk_at "rd"
  rename_i p4 H4 g4 e4
  exact q _ _ _ ((s1.trans (s2.trans s3)).then g4) (W3.same g4) e4 (fun _=>rfl) (.inl rfl)
 ·walk_at "rd"
  rename_i p4 H4 g4 e4
  have z0:z=0:=by have:=of_decide_eq_false hc;omega
  subst z0
  exact q _ _ _ (SBW.of g4) (W1.same g4) e4 (fun h=>absurd h (by omega)) (.inr rfl)
theorem ok_figures_of {f:Addr} {fd:FuncData} (F:Fun K "figures_of" "figures_of" s_figures_of f fd) (B:Blt mg) {t_FIGURES:Tok} (g_FIGURES:mg "FIGURES" = some (.str "0123456789abcdef" t_FIGURES)):FnOk P w K mg base CX0 1 f fd ["number", "base"] (sp_figures_of K):=by classical
 refine F.ok sc_figures_of (fun vs H Q E h=>?_) (fun cdv A outer s H vs Q E hr h=>?_)
 ·obtain ⟨n,b,rfl,h1,h2,h3,h4,q⟩:=h
  rfl
 obtain ⟨n,b,rfl,h1,h2,h3,h4,q⟩:=h
 refine ⟨_,pss_cons (ps_set (i:=2) sc_figures_of.nd rfl (Or.inl rfl) (pe_ix ix_str (pe_glob rfl g_FIGURES (v:=.str "0123456789abcdef") ⟨_,rfl⟩) (pe_op op_modP (pv 0) (pv 1)) (fun _ _=>rfl)))
  (pss_cons (ps_set (i:=3) sc_figures_of.nd rfl (Or.inl rfl) (pe_op op_fdivB (pv 0) (pv 1)))
  (pss_cons (ps_while PassesOwn.never (pt_cmpR op_gt (pv 3) (pe_int) (nomark _)) (pss_cons (ps_set (i:=2) sc_figures_of.nd rfl (Or.inl rfl) (pe_op op_addS (pe_ix ix_str (pe_glob rfl g_FIGURES (v:=.str "0123456789abcdef") ⟨_,rfl⟩) (pe_op op_modP (pv 3) (pv 1)) (fun _ _=>rfl)) (pv 2)))
  (pss_one (ps_set (i:=3) sc_figures_of.nd rfl (Or.inl rfl) (pe_op op_fdivB (pv 3) (pv 1))))))
  (pss_one (ps_ret (pv 2))))),?_⟩
 walk_at "st"
 obtain ⟨N,rfl⟩:=Int.eq_ofNat_of_zero_le h1
 obtain ⟨m,rfl⟩:=Int.eq_ofNat_of_zero_le (show 0≤b by omega)
 have hz:=figs_240 (b:=m) (n:=N) (by omega) (by omega)
 have em : ∀ k:Nat,(k:Int) % (m:Int)=((k % m:Nat):Int):=fun k=>(Int.natCast_emod k m).symm
 have ed : ∀ k:Nat,(k:Int) / (m:Int)=((k / m:Nat):Int):=fun k=>(Int.natCast_ediv k m).symm
 have lm : ∀ k:Nat,k % m < m:=fun k=>Nat.mod_lt k (by omega)
 have sp:=figs_spec (b:=m) (by omega) (by omega) N N (Nat.le_refl _)
 replace q:=q _ rfl (by simp only [Int.toNat_natCast];exact sp.1) (by simp only [Int.toNat_natCast];exact sp.2.1) (by simp only [Int.toNat_natCast];exact List.length_pos_iff.mpr sp.2.2.1) (by simp only [Int.toNat_natCast];exact hz) (by
  simp only [Int.toNat_natCast];intro z;rw [sp.2.2.2 z,figs_lt (by omega)];decide +kernel)
 simp only [Int.toNat_natCast] at q
 have l0:=lm N
 have e0:=em N
 walk_at "rd"
 rw [ed N,em N,Int.toNat_natCast]
 refine r_while (fun k σ H'=>H'=H ∧ ∃ l:List Nat,σ=[some (.int N),some (.int m),some (.str (T l)),some (.int k)]∧figs m N=if k=0 then l else figs m k++l) ⟨N / m,rfl,[fc (N % m)],rfl,?_⟩ ?_
 ·have t:=figs_turn (b:=m) (m:=N) (by omega) []
  rw [List.append_nil] at t;exact t
 ·rintro k σ H' ⟨rfl,l,rfl,e⟩
  have lk:=lm k
  have ek:=em k
  have ll:l.length≤240:=by
   have z:=congrArg List.length e
   split at z
   ·omega
   ·rw [List.length_append] at z;omega
  walk_at "rd"
  ·rename_i hc
   refine ⟨k / m,Nat.div_lt_self (by omega) (by omega),rfl,fc (k % m)::l,?_,?_⟩
   ·rw [em k,ed k,Int.toNat_natCast];rfl
   ·rw [← figs_turn (by omega) l,e,if_neg (by omega)]
  ·rename_i hc
   rw [if_pos (by omega)] at e
   rw [← e];exact q
local macro_rules | `(tactic| walk_at "rdc")=>`(tactic| ((with_reducible refine' c_number_of ?h1 ?h2 ?h3 ?h4 ?h5 ?_);(case h1=>assumption);(case h2=>walk_at "tl");(case h3=>walk_at "tl");(case h4=>omega);(case h5=>omega)))
theorem ok_number_of {f:Addr} {fd:FuncData} (F:Fun K "number_of" "number_of" s_number_of f fd) (B:Blt mg) {t_MOST_FIGURES:Tok} {t_FIGURES:Tok} (g_MOST_FIGURES:mg "MOST_FIGURES" = some (.int 240 t_MOST_FIGURES)) (g_FIGURES:mg "FIGURES" = some (.str "0123456789abcdef" t_FIGURES)):FnOk P w K mg base CX0 1 f fd ["text", "base"] (sp_number_of K):=by classical
 refine F.ok sc_number_of (fun vs H Q E h=>?_) (fun cdv A outer s H vs Q E hr h=>?_)
 ·obtain ⟨l,b,rfl,hF,h1,h2,h3,h4,q⟩:=h
  rfl
 obtain ⟨l,b,rfl,hF,h1,h2,h3,h4,q⟩:=h
 refine ⟨_,pss_cons (ps_if (PW.pt (pw_or (pt_not (pt_val (pe_callBH call_isi B.z_isinstance rfl bo_isinstance (pa_cons (pv 0) (pa_cons (pe_bltn rfl B.z_str bo_str (v:=.ty "str") rfl) (pa_nil)))))) (pw_or1 (pt_not (pt_chain op_le op_le (pe_int) (pe_callBH call_lenT B.z_len rfl bo_len (pa_cons (pv 0) (pa_nil))) (pe_glob rfl g_MOST_FIGURES (v:=.int 240) ⟨_,rfl⟩)))))) (pss_one (ps_never)) (pss_nil))
  (pss_cons (ps_set (i:=2) sc_number_of.nd rfl (Or.inl rfl) (pe_int))
  (pss_cons (ps_for PassesOwn.never rfl (pi_strT (pv 0)) (pg_name (i:=3) sc_number_of.nd rfl (Or.inl rfl)) (pss_cons (ps_set (i:=4) sc_number_of.nd rfl (Or.inl rfl) (pe_bm PySem.F.plainAttrs_str PySem.F.slot_str_find PySem.F.type_str_find mt_findT (pe_glob rfl g_FIGURES (v:=.str "0123456789abcdef") ⟨_,rfl⟩) (pa_cons (pv 3) (pa_nil))))
  (pss_cons (ps_if (PW.pt (pw_or (pt_cmpR op_lt (pv 4) (pe_int) (nomark _)) (pw_or1 (pt_cmpR op_ge (pv 4) (pv 1) (nomark _))))) (pss_one (ps_never)) (pss_nil))
  (pss_one (ps_set (i:=2) sc_number_of.nd rfl (Or.inl rfl) (pe_op op_add (pe_op op_mulA (pv 2) (pv 1)) (pv 4)))))))
  (pss_one (ps_ret (pv 2))))),?_⟩
 walk_at "st"
 walk_at "rd"
 refine r_kForS (fun i σ H'=>H'=H ∧ ∃ r1 r2:Option V,σ=[some (.str (T l)),some (.int b),some (.int (val b (l.take i))),r1,r2]) ⟨rfl,none,none,rfl⟩ ?_ ?_
 ·rintro i c σ H' hi ⟨rfl,r1,r2,rfl⟩
  have hc:=hF c (List.mem_of_getElem? hi)
  have hc1:=hc.1
  walk_at "rd"
  refine ⟨rfl,some (.str (T [c])),some (.int (fv c)),?_⟩
  rw [List.take_succ,hi,show (some c).toList=[c] from rfl,val_app];rfl
 ·rintro σ H' ⟨rfl,r1,r2,rfl⟩
  walk_at "rd"
  rw [List.take_length];exact q
local macro_rules | `(tactic| walk_at "rdc")=>`(tactic| ((with_reducible refine' c_power_of ?h1 ?h2 ?h3 ?h4 ?_);(case h1=>omega);(case h2=>omega);(case h3=>omega);(case h4=>omega)))
local macro_rules | `(tactic| walk_at "rdc")=>`(tactic| ((with_reducible refine' c_law_size ?h1 ?h2 ?h3 ?h4 ?_);(case h1=>omega);(case h2=>omega);(case h3=>omega);(case h4=>omega)))
local macro_rules | `(tactic| walk_at "rdc")=>`(tactic| ((with_reducible refine' c_goes_up ?h1 ?h2 ?h3 ?_);(case h1=>assumption);(case h2=>omega);(case h3=>omega)))
local macro_rules | `(tactic| walk_at "rdc")=>`(tactic| ((with_reducible refine' c_gridded ?h1 ?h2 ?h3 ?h4 ?h5 ?h6 ?h7 ?_);(case h1=>walk_at "hp");(case h2=>assumption);(case h3=>omega);(case h4=>omega);(case h5=>omega);(case h6=>omega);(case h7=>first | assumption | exact .inl rfl | exact .inr (.inl rfl) | exact .inr (.inr (.inl rfl)) | exact .inr (.inr (.inr (.inl rfl))) | exact .inr (.inr (.inr (.inr rfl))))))
theorem ok_power_of {f:Addr} {fd:FuncData} (F:Fun K "power_of" "power_of" s_power_of f fd) (B:Blt mg):FnOk P w K mg base CX0 1 f fd ["base", "times"] (sp_power_of K):=by
 refine F.ok sc_power_of (fun vs H Q E h=>?_) (fun cdv A outer s H vs Q E hr h=>?_)
 ·obtain ⟨b,t,rfl,h1,h2,h3,h4,q⟩:=h
  rfl
 obtain ⟨b,t,rfl,h1,h2,h3,h4,q⟩:=h
 refine ⟨_,pss_cons (ps_set (i:=2) sc_power_of.nd rfl (Or.inl rfl) (pe_int))
  (pss_cons (ps_for PassesOwn.never rfl (pi_range1 rfl B.z_range (pa_cons (pv 1) (pa_nil))) (pg_name (i:=3) sc_power_of.nd rfl (Or.inl rfl)) (pss_one (ps_set (i:=2) sc_power_of.nd rfl (Or.inl rfl) (pe_op op_mulA (pv 2) (pv 0)))))
  (pss_one (ps_ret (pv 2)))),?_⟩
 walk_at "st"
 walk_at "rd"
 refine r_kForR (by omega) (by omega) (fun i σ H'=>H'=H ∧ ∃ r,σ=[some (.int b),some (.int t),some (.int (b ^ i)),r]) ⟨rfl,none,by rw [Int.pow_zero];rfl⟩ ?_ ?_
 ·rintro i σ H' hi ⟨rfl,r,rfl⟩
  have z:=pw60 (n:=i) h1 h2 (by omega)
  walk_at "rd"
  exact ⟨rfl,some (.int (0+i)),by rw [Int.pow_succ];rfl⟩
 ·rintro σ H' ⟨rfl,r,rfl⟩
  walk_at "rd"
  exact q
theorem ok_goes_up {f:Addr} {fd:FuncData} (F:Fun K "goes_up" "goes_up" s_goes_up f fd) (B:Blt mg):FnOk P w K mg base CX0 1 f fd ["below", "rest", "bottom", "way"] (sp_goes_up K):=by classical
 refine F.ok sc_goes_up (fun vs H Q E h=>?_) (fun cdv A outer s H vs Q E hr h=>?_)
 ·obtain ⟨be,re,bo,w,rfl,h1,h2,h3,q⟩:=h
  rfl
 obtain ⟨be,re,bo,w,rfl,h1,h2,h3,q⟩:=h
 refine ⟨_,pss_cons (ps_if (pt_cmpR op_eq (pv 3) (pe_str) (nomark _)) (pss_one (ps_ret (pe_bl))) (pss_nil))
  (pss_cons (ps_if (pt_cmpR op_eq (pv 3) (pe_str) (nomark _)) (pss_one (ps_ret (pe_bl))) (pss_nil))
  (pss_cons (ps_if (pt_cmpR op_eq (pv 3) (pe_str) (nomark _)) (pss_one (ps_ret (pe_cmpR op_lt (pv 0) (pe_int) (nomark _)))) (pss_nil))
  (pss_cons (ps_if (pt_cmpR op_ne (pe_op op_mulA (pe_int) (pv 1)) (pv 2) (nomark _)) (pss_one (ps_ret (pe_cmpR op_gt (pe_op op_mulA (pe_int) (pv 1)) (pv 2) (nomark _)))) (pss_nil))
  (pss_one (ps_ret (pe_or (pe_cmpR op_eq (pv 3) (pe_str) (nomark _)) (pe_one (pe_cmpR op_eq (pe_op op_modP (pv 0) (pe_int)) (pe_int) (nomark _))))))))),?_⟩
 walk_at "st"
 rcases h1 with rfl | rfl | rfl | rfl | rfl
 all_goals walk_at "rd"
 ·rw [up_down] at q;exact q
 ·rw [up_up] at q;exact q
 ·rw [up_cut] at q;exact q
 ·rw [up_near (by assumption)] at q;exact q
 ·rw [up_near' (by assumption)] at q;exact q
 ·rw [up_even (by assumption)] at q;exact q
 ·rw [up_even' (by assumption)] at q;exact q
theorem ok_gridded {f:Addr} {fd:FuncData} (F:Fun K "gridded" "gridded" s_gridded f fd) (B:Blt mg) (C_power_of:Has P w K mg base "power_of" 1 ["base", "times"] (sp_power_of K)) (C_goes_up:Has P w K mg base "goes_up" 1 ["below", "rest", "bottom", "way"] (sp_goes_up K)):FnOk P w K mg base CX0 2 f fd ["value", "base", "places", "way"] (sp_gridded K):=by classical
 refine F.ok sc_gridded (fun vs H Q E h=>?_) (fun cdv A outer s H vs Q E hr h=>?_)
 ·obtain ⟨p,a,b,c,t,w,rfl,h1,⟨g1,g2,g3,g4⟩,h3,h4,h5,h6,h7,q⟩:=h
  rfl
 obtain ⟨p,a,b,c,t,w,rfl,h1,⟨g1,g2,g3,g4⟩,h3,h4,h5,h6,h7,q⟩:=h
 refine ⟨_,pss_cons (ps_set (i:=4) sc_gridded.nd rfl (Or.inl rfl) (pe_op op_mulA (pe_ix ix_tup (pv 0) (pe_int) (fun _ _=>rfl)) (pe_callH C_power_of hr rfl (pa_cons (pv 1) (pa_cons (pv 2) (pa_nil))))))
  (pss_cons (ps_set (i:=5) sc_gridded.nd rfl (Or.inl rfl) (pe_ix ix_tup (pv 0) (pe_int) (fun _ _=>rfl)))
  (pss_cons (ps_set (i:=6) sc_gridded.nd rfl (Or.inl rfl) (pe_op op_fdivB (pv 4) (pv 5)))
  (pss_cons (ps_set (i:=7) sc_gridded.nd rfl (Or.inl rfl) (pe_op op_modP (pv 4) (pv 5)))
  (pss_cons (ps_if (PW.pt (pw_and (pt_cmpR op_gt (pv 7) (pe_int) (nomark _)) (pw_and1 (pt_val (pe_callH C_goes_up hr rfl (pa_cons (pv 6) (pa_cons (pv 7) (pa_cons (pv 5) (pa_cons (pv 3) (pa_nil)))))))))) (pss_one (ps_ret (pe_op op_add (pv 6) (pe_int)))) (pss_nil))
  (pss_one (ps_ret (pv 6))))))),?_⟩
 walk_at "st"
 have z:=pw6 (t:=t) h3 h4 h6
 have m:=mul_bd (M:=16777217) g1 g2 (show 0 < c ^ t.toNat by omega) (by omega)
 have n:=fl_bd (a*c ^ t.toNat) g3
 unfold grid at q
 walk_at "rd"
 ·rw [if_pos ⟨by assumption,by assumption⟩] at q;exact q
 ·rename_i hc1 hc2
  rw [if_neg (fun z=>by rw [hc2] at z;exact Bool.false_ne_true z.2)] at q;exact q
 ·rename_i hc1
  rw [if_neg (fun z=>hc1 z.1)] at q;exact q
theorem ok_parts_of {f:Addr} {fd:FuncData} (F:Fun K "parts_of" "parts_of" s_parts_of f fd) (B:Blt mg):FnOk P w K mg base CX0 1 f fd ["text", "size", "between"] (sp_parts_of K):=by classical
 refine F.ok sc_parts_of (fun vs H Q E h=>?_) (fun cdv A outer s H vs Q E hr h=>?_)
 ·obtain ⟨a,z,g,rfl,h1,h2,h3,h4,h5,q⟩:=h
  rfl
 obtain ⟨a,z,g,rfl,h1,h2,h3,h4,h5,q⟩:=h
 refine ⟨_,pss_cons (ps_set (i:=3) sc_parts_of.nd rfl (Or.inl rfl) (pe_lst (pa_nil)))
  (pss_cons (ps_set (i:=4) sc_parts_of.nd rfl (Or.inl rfl) (pe_callBH call_lenT B.z_len rfl bo_len (pa_cons (pv 0) (pa_nil))))
  (pss_cons (ps_while PassesOwn.never (pt_cmpR op_gt (pv 4) (pe_int) (nomark _)) (pss_cons (ps_expr (pe_bm PySem.F.plainAttrs_list PySem.F.slot_list_append PySem.F.type_list_append mt_append (pv 3) (pa_cons (pe_slice sl_str (pv 0) (po_some (pe_callBH (call_max2N rfl) B.z_max rfl bo_max (pa_cons (pe_int) (pa_cons (pe_op op_sub (pv 4) (pv 1)) (pa_nil))))) (po_some (pv 4))) (pa_nil))))
  (pss_one (ps_set (i:=4) sc_parts_of.nd rfl (Or.inl rfl) (pe_op op_sub (pe_op op_sub (pv 4) (pv 1)) (pv 2))))))
  (pss_cons (ps_expr (pe_bm0 PySem.F.plainAttrs_list PySem.F.slot_list_reverse PySem.F.type_list_reverse mt_reverse (pv 3)))
  (pss_one (ps_ret (pv 3)))))),?_⟩
 walk_at "st"
 refine r_seq (r_asg (r_lst (r_nil (r_kLstF (by decide) fun l hl=>?_))))
 walk_at "rd"
 refine r_while (fun k σ H'=>∃ (e:Int) (ps:List (List Nat)),σ=[some (.str (T a)),some (.int z),some (.int g),some (.ref l),some (.int e)]∧H'=upd H l (.lst (ps.map fun l=>V.str (T l)))∧k=e.toNat∧ps.length+e.toNat≤a.length∧e≤a.length∧pcs a z.toNat g.toNat a.length=pcs a z.toNat g.toNat e.toNat++ps.reverse) ⟨_,a.length,[],rfl,rfl,rfl,by simp,Int.le_refl _,by simp⟩ ?_
 rintro k σ H' ⟨e,ps,rfl,rfl,rfl,b1,b2,ep⟩
 walk_at "rd"
 ·rename_i hc k' hk'
  refine r_append upd_same (small1000 (by rw [List.length_map];omega)) ?_
  rw [upd_upd]
  walk_at "rd"
  refine ⟨(e - z - g).toNat,by omega,e - z - g,ps++[(a.take e.toNat).drop k'.toNat],rfl,by rw [List.map_append];rfl,rfl,by rw [List.length_append,List.length_singleton];omega,by omega,?_⟩
  rw [ep,pcs_pos (by omega) (by omega),List.reverse_append,show (e - z - g).toNat=e.toNat - z.toNat - g.toNat by omega,show k'.toNat=e.toNat - z.toNat by omega]
  simp
 ·rename_i hc
  refine r_reverse upd_same ?_
  rw [upd_upd]
  walk_at "rd"
  refine q _ _ (same_upd (Same.refl _) hl) ?_
  rw [upd_same,ep,show e.toNat=0 by omega,pcs_zero,List.nil_append,List.map_reverse]
theorem ok_grouped {f:Addr} {fd:FuncData} (F:Fun K "grouped" "grouped" s_grouped f fd) (B:Blt mg) (C_parts_of:Has P w K mg base "parts_of" 1 ["text", "size", "between"] (sp_parts_of K)):FnOk P w K mg base CX0 2 f fd ["text", "size", "mark"] (sp_grouped K):=by
 refine F.ok sc_grouped (fun vs H Q E h=>?_) (fun cdv A outer s H vs Q E hr h=>?_)
 ·obtain ⟨a,z,m,rfl,h1,h2,h5,q⟩:=h
  rfl
 obtain ⟨a,z,m,rfl,h1,h2,h5,q⟩:=h
 refine ⟨_,pss_cons (ps_if (pt_cmpR op_eq (pv 1) (pe_int) (nomark _)) (pss_one (ps_ret (pv 0))) (pss_nil))
  (pss_one (ps_ret (pe_bm PySem.F.plainAttrs_str PySem.F.slot_str_join PySem.F.type_str_join mt_joinT (pv 2) (pa_cons (pe_callH C_parts_of hr rfl (pa_cons (pv 0) (pa_cons (pv 1) (pa_cons (pe_int) (pa_nil))))) (pa_nil))))),?_⟩
 walk_at "st"
 have bd:=fun hz:0 < z.toNat=>pcs_bd (a:=a) (g:=0) hz a.length a.length (Nat.le_refl _)
 walk_at "rd"
 ·rename_i hc
  subst hc
  have q':=q _ (Same.refl _)
  rw [show Int.toNat 0=0 from rfl,gr_zero] at q'
  exact q'
 ·rename_i hc p' H' g' e'
  have b:=bd (by omega)
  refine r_joinT e' (by rw [Lt_T,List.length_singleton,show Int.toNat 0=0 from rfl];omega) ?_
  rw [Lt_T,show Int.toNat 0=0 from rfl,gr_jn (by omega)]
  exact q _ g'
theorem ok_body_of {f:Addr} {fd:FuncData} (F:Fun K "body_of" "body_of" s_body_of f fd) (B:Blt mg) (C_grouped:Has P w K mg base "grouped" 2 ["text", "size", "mark"] (sp_grouped K)) (C_figures_of:Has P w K mg base "figures_of" 1 ["number", "base"] (sp_figures_of K)):FnOk P w K mg base CX0 3 f fd ["number", "base", "places", "point", "size", "mark"] (sp_body_of K):=by classical
 refine F.ok sc_body_of (fun vs H Q E h=>?_) (fun cdv A outer s H vs Q E hr h=>?_)
 ·obtain ⟨n,b,p,z,pt,m,rfl,hn,h2,h3,q⟩:=h
  rfl
 obtain ⟨n,b,p,z,pt,m,rfl,hn,h2,h3,q⟩:=h
 refine ⟨_,pss_cons (ps_set (i:=6) sc_body_of.nd rfl (Or.inl rfl) (pe_bm PySem.F.plainAttrs_str PySem.F.slot_str_rjust PySem.F.type_str_rjust mt_rjustT (pe_callH C_figures_of hr rfl (pa_cons (pv 0) (pa_cons (pv 1) (pa_nil)))) (pa_cons (pe_op op_add (pv 2) (pe_int)) (pa_cons (pe_strT (l:=[48]) (by decide +kernel)) (pa_nil)))))
  (pss_cons (ps_set (i:=7) sc_body_of.nd rfl (Or.inl rfl) (pe_op op_sub (pe_callBH call_lenT B.z_len rfl bo_len (pa_cons (pv 6) (pa_nil))) (pv 2)))
  (pss_cons (ps_set (i:=8) sc_body_of.nd rfl (Or.inl rfl) (pe_callH C_grouped hr rfl (pa_cons (pe_slice sl_str (pv 6) (po_none) (po_some (pv 7))) (pa_cons (pv 4) (pa_cons (pv 5) (pa_nil))))))
  (pss_cons (ps_if (pt_cmpR op_eq (pv 2) (pe_int) (nomark _)) (pss_one (ps_ret (pv 8))) (pss_nil))
  (pss_one (ps_ret (pe_op op_addS (pe_op op_addS (pv 8) (pv 3)) (pe_slice sl_str (pv 6) (po_some (pv 7)) (po_none)))))))),?_⟩
 walk_at "st"
 have big:=hn.big
 have hn':=hn
 obtain ⟨n1,n2,n3,n4,n5,n6⟩:=hn'
 have ds:=dgs_spec (b:=b.toNat) (p:=p.toNat) (n:=n.toNat) (by omega) (by omega) (by omega) n6
 have ws:=whl_spec (b:=b.toNat) (p:=p.toNat) (n:=n.toNat) (by omega) (by omega) (by omega) n6
 have gl:=gr_len (z:=z.toNat) (m:=m) (a:=whl b.toNat p.toNat n.toNat)
 walk_at "rd"
 rename_i l el f1 f2 f3 f4 f5
 have ed:List.replicate ((p+1).toNat - l.length) 48++l=dgs b.toNat p.toNat n.toNat:=by
  rw [el];unfold dgs;rw [show (p+1).toNat=p.toNat+1 by omega]
 have ew:(dgs b.toNat p.toNat n.toNat).take (((dgs b.toNat p.toNat n.toNat).length:Int) - p).toNat=whl b.toNat p.toNat n.toNat:=by
  unfold whl;rw [show (((dgs b.toNat p.toNat n.toNat).length:Int) - p).toNat=(dgs b.toNat p.toNat n.toNat).length - p.toNat by omega]
 have er:(dgs b.toNat p.toNat n.toNat).drop (((dgs b.toNat p.toNat n.toNat).length:Int) - p).toNat=rst b.toNat p.toNat n.toNat:=by
  unfold rst;rw [show (((dgs b.toNat p.toNat n.toNat).length:Int) - p).toNat=(dgs b.toNat p.toNat n.toNat).length - p.toNat by omega]
 rw [ed]
 walk_at "rd"
 rw [ew]
 walk_at "rd"
 ·rename_i H1 g1 hc
  have e:bdI n b p pt z m=gr z.toNat m (whl b.toNat p.toNat n.toNat):=by unfold bdI bdy;rw [if_pos (by omega)]
  have q':=q _ g1
  rw [e] at q';exact q'
 ·rename_i H1 g1 hc
  have e:bdI n b p pt z m=gr z.toNat m (whl b.toNat p.toNat n.toNat)++[pt]++rst b.toNat p.toNat n.toNat:=by unfold bdI bdy;rw [if_neg (by omega)]
  have q':=q _ g1
  rw [e] at q'
  rw [er];exact q'
theorem ok_ends_of {f : Addr} {fd : FuncData} (F : Fun K "ends_of" "ends_of" s_ends_of f fd) (B : Blt mg) {t_STYLES : Addr} (g_STYLES : mg "STYLES" = some (.ref t_STYLES))(sty : Sty w K t_STYLES) : FnOk P w K mg base CX0 1 f fd ["style", "below"] (sp_ends_of K) := by
  refine F.ok sc_ends_of (fun vs H Q E h => ?_) (fun cdv A outer s H vs Q E hr h => ?_)
  · obtain ⟨x, b, rfl, hx, q⟩ := h
    rfl
  obtain ⟨x, b, rfl, hx, q⟩ := h
  refine ⟨_, pss_cons (ps_if (pt_val (pv 1)) (pss_one (ps_ret (pe_ix ix_tup (pe_ix ix_kd (pe_glob rfl g_STYLES (v := .ref t_STYLES) rfl) (pv 0) (fun _ _ => rfl)) (pe_int) (fun _ _ => rfl)))) (pss_nil))
    (pss_one (ps_ret (pe_ix ix_tup (pe_ix ix_kd (pe_glob rfl g_STYLES (v := .ref t_STYLES) rfl) (pv 0) (fun _ _ => rfl)) (pe_int) (fun _ _ => rfl)))), ?_⟩
  walk_at "st"
  obtain ⟨p, a, c, kd, sq⟩ := sty x hx
  cases b with
  | true =>
    walk_at "rd"
    refine r_ixD kd ?_
    walk_at "rd"
    exact r_ixQ (sq H).1 rfl (q _ (sq H).2.2)
  | false =>
    walk_at "rd"
    refine r_ixD kd ?_
    walk_at "rd"
    exact r_ixQ (sq H).1 rfl (q _ (sq H).2.1)
theorem ok_signed {f:Addr} {fd:FuncData} (F:Fun K "signed" "signed" s_signed f fd) (B:Blt mg) (C_ends_of:Has P w K mg base "ends_of" 1 ["style", "below"] (sp_ends_of K)):FnOk P w K mg base CX0 2 f fd ["body", "style", "below"] (sp_signed K):=by
 refine F.ok sc_signed (fun vs H Q E h=>?_) (fun cdv A outer s H vs Q E hr h=>?_)
 ·obtain ⟨l,x,b,rfl,hx,hl,q⟩:=h
  rfl
 obtain ⟨l,x,b,rfl,hx,hl,q⟩:=h
 refine ⟨_,pss_cons (ps_set (i:=3) sc_signed.nd rfl (Or.inl rfl) (pe_callH C_ends_of hr rfl (pa_cons (pv 1) (pa_cons (pv 2) (pa_nil)))))
  (pss_one (ps_ret (pe_op op_addS (pe_op op_addS (pe_ix ix_tup (pv 3) (pe_int) (fun _ _=>rfl)) (pv 0)) (pe_ix ix_tup (pv 3) (pe_int) (fun _ _=>rfl))))),?_⟩
 walk_at "st"
 have ln:=st_len hx b
 walk_at "rd"
 exact q
theorem ok_is_whole {f:Addr} {fd:FuncData} (F:Fun K "is_whole" "is_whole" s_is_whole f fd) (B:Blt mg):FnOk P w K mg base CX0 1 f fd ["thing"] (sp_is_whole K):=by
 refine F.ok sc_is_whole (fun vs H Q E h=>?_) (fun cdv A outer s H vs Q E hr h=>?_)
 ·obtain ⟨i,rfl,q⟩:=h
  rfl
 obtain ⟨i,rfl,q⟩:=h
 refine ⟨_,pss_one (ps_ret (pe_and (pe_callBH call_isi B.z_isinstance rfl bo_isinstance (pa_cons (pv 0) (pa_cons (pe_bltn rfl B.z_int bo_int (v:=.ty "int") rfl) (pa_nil)))) (pe_one (pe_not (pe_callBH call_isi B.z_isinstance rfl bo_isinstance (pa_cons (pv 0) (pa_cons (pe_bltn rfl B.z_bool bo_bool (v:=.ty "bool") rfl) (pa_nil)))))))),?_⟩
 walk_at "st"
 walk_at "rd"
 exact q
theorem ok_common_divisor {f:Addr} {fd:FuncData} (F:Fun K "common_divisor" "common_divisor" s_common_divisor f fd) (B:Blt mg):FnOk P w K mg base CX0 1 f fd ["one", "other"] (sp_common_divisor K):=by classical
 refine F.ok sc_common_divisor (fun vs H Q E h=>?_) (fun cdv A outer s H vs Q E hr h=>?_)
 ·obtain ⟨a,b,rfl,q⟩:=h
  rfl
 obtain ⟨a,b,rfl,q⟩:=h
 refine ⟨_,pss_cons (ps_set (i:=2) sc_common_divisor.nd rfl (Or.inl rfl) (pe_callBH call_absN B.z_abs rfl bo_abs (pa_cons (pv 0) (pa_nil))))
  (pss_cons (ps_set (i:=3) sc_common_divisor.nd rfl (Or.inl rfl) (pe_callBH call_absN B.z_abs rfl bo_abs (pa_cons (pv 1) (pa_nil))))
  (pss_cons (ps_while PassesOwn.never (pt_cmpR op_ne (pv 3) (pe_int) (nomark _)) (pss_cons (ps_set (i:=4) sc_common_divisor.nd rfl (Or.inl rfl) (pe_op op_modP (pv 2) (pv 3)))
  (pss_cons (ps_set (i:=2) sc_common_divisor.nd rfl (Or.inl rfl) (pv 3))
  (pss_one (ps_set (i:=3) sc_common_divisor.nd rfl (Or.inl rfl) (pv 4))))))
  (pss_one (ps_ret (pv 2))))),?_⟩
 walk_at "st"
 walk_at "rd"
 rename_i k1 hk1 k2 hk2
 have ha:=gcd_abs hk1 hk2
 refine r_while (fun m σ H'=>H'=H ∧ ∃ (g l:Int) (r:Option V),σ=[some (.int a),some (.int b),some (.int g),some (.int l),r]∧0≤g∧0≤l∧Int.gcd g l=Int.gcd a b∧m=l.toNat) ⟨_,rfl,k1,k2,none,rfl,ha.1,ha.2.1,ha.2.2,rfl⟩ ?_
 rintro m σ H' ⟨rfl,g,l,r,rfl,hg,hl,hgl,rfl⟩
 walk_at "rd"
 ·rename_i hc
  have:l=0:=by omega
  subst this
  have e:g=((Int.gcd a b:Nat):Int):=by rw [← hgl];simp;omega
  rw [e];exact q
 ·rename_i hc
  have hc':0 < l:=by omega
  have h1:=Int.emod_nonneg g (show l≠0 by omega)
  have h2:=Int.emod_lt_of_pos g hc'
  exact ⟨_,by omega,rfl,_,_,_,rfl,by omega,h1,by rw [gcd_turn hg hc'];exact hgl,rfl⟩
theorem ok_is_fraction {f:Addr} {fd:FuncData} (F:Fun K "is_fraction" "is_fraction" s_is_fraction f fd) (B:Blt mg) (C_is_whole:Has P w K mg base "is_whole" 1 ["thing"] (sp_is_whole K)) (C_common_divisor:Has P w K mg base "common_divisor" 1 ["one", "other"] (sp_common_divisor K)):FnOk P w K mg base CX0 2 f fd ["thing"] (sp_is_fraction K):=by classical
 refine F.ok sc_is_fraction (fun vs H Q E h=>?_) (fun cdv A outer s H vs Q E hr h=>?_)
 ·obtain ⟨p,a,b,rfl,hp,h1,h2,q⟩:=h
  rfl
 obtain ⟨p,a,b,rfl,hp,h1,h2,q⟩:=h
 refine ⟨_,pss_cons (ps_if (PW.pt (pw_or (pt_not (pt_val (pe_callBH call_isi B.z_isinstance rfl bo_isinstance (pa_cons (pv 0) (pa_cons (pe_bltn rfl B.z_tuple bo_tuple (v:=.ty "tuple") rfl) (pa_nil)))))) (pw_or1 (pt_cmpR op_ne (pe_callBH call_lenN B.z_len rfl bo_len (pa_cons (pv 0) (pa_nil))) (pe_int) (nomark _))))) (pss_one (ps_ret (pe_bl))) (pss_nil))
  (pss_cons (ps_if (PW.pt (pw_or (pt_not (pt_val (pe_callH C_is_whole hr rfl (pa_cons (pe_ix ix_tup (pv 0) (pe_int) (fun _ _=>rfl)) (pa_nil))))) (pw_or1 (pt_not (pt_val (pe_callH C_is_whole hr rfl (pa_cons (pe_ix ix_tup (pv 0) (pe_int) (fun _ _=>rfl)) (pa_nil)))))))) (pss_one (ps_ret (pe_bl))) (pss_nil))
  (pss_one (ps_ret (pe_and (pe_cmpR op_ge (pe_ix ix_tup (pv 0) (pe_int) (fun _ _=>rfl)) (pe_int) (nomark _)) (pe_one (pe_cmpR op_eq (pe_callH C_common_divisor hr rfl (pa_cons (pe_ix ix_tup (pv 0) (pe_int) (fun _ _=>rfl)) (pa_cons (pe_ix ix_tup (pv 0) (pe_int) (fun _ _=>rfl)) (pa_nil)))) (pe_int) (nomark _))))))),?_⟩
 walk_at "st"
 have h3:((Int.gcd a b:Nat):Int)=1:=by rw [h2];rfl
 walk_at "rd"
 rw [decide_eq_true h3]
 exact q
def cmore (L:Addr):List (Str × V):=[("names", .ref L)]
def wns:List Str:=["signs", "least", "most"]
def cns:List Str:=["names"]
theorem cm_none {L:Addr} {m:Str} (h1:m ≠ "names"):(cmore L).lookup m=none:=(lk_ne h1).trans rfl
section
variable {H : Hp} {a C L : Addr} {wd : Int} {f : Nat} {x : Str} {st : Bool}
theorem cf_names (F:FormAt K H a C wd f x st (cmore L)):FldAt K H a "names" (.ref L):=F.own (by decide +kernel) lk_eq (List.mem_cons_self ..)
theorem cf_meth {m:Str} (F:FormAt K H a C wd f x st (cmore L)) (h0:m ∉ bns) (h1:m ≠ "names"):InsM H a C m:=F.meth h0 (cm_none h1)
end
local macro_rules | `(tactic| walk_at "fld2")=>`(tactic| (exact cf_names (by walk_at "fm")))
local macro_rules | `(tactic| walk_at "ins")=>`(tactic| exact cf_meth (by walk_at "fm") (by decide +kernel) (by decide +kernel))
def sp_Form___init__ (K:W.Frag):Sp:=fun vs H Q _=>∃ (C a dx:Addr) (wd:Int) (f:Nat) (x:Str) (st:Bool),vs=[.ref a,.int wd,.str (T [f]),.str x,.bl st]∧Cls K C∧NoAttrs K C bns∧H a=some (.ins C dx [])∧Q .non (upd H a (.ins C dx (bfs wd f x st [])))
theorem ok_Form___init__ {f:Addr} {fd:FuncData} (F:FunD K "__init__" "Form.__init__" s_Form___init__ f fd) (B:Blt mg):FnOk P w K mg base CX0 1 f fd ["self", "width", "fill", "side", "strict"] (sp_Form___init__ K):=by
 refine F.ok sc_Form___init__ (fun vs H Q E h=>?_) (fun cdv A outer s H vs Q E hr h=>?_)
 ·obtain ⟨C,a,dx,wd,f,x,st,rfl,cl,na,e0,q⟩:=h
  rfl
 obtain ⟨C,a,dx,wd,f,x,st,rfl,cl,na,e0,q⟩:=h
 refine ⟨_,pss_cons (ps_fld (pv 0) (pv 1) rfl)
  (pss_cons (ps_fld (pv 0) (pv 2) rfl)
  (pss_cons (ps_fld (pv 0) (pv 3) rfl)
  (pss_one (ps_fld (pv 0) (pv 4) rfl)))),?_⟩
 walk_at "st"
 walk_at "rd"
 refine r_kSet e0 cl (na.at (by decide +kernel)) (by decide) ?_
 rw [putF_nil]
 walk_at "rd"
 refine r_kSet upd_same cl (na.at (by decide +kernel)) (by show 1 < 1000;decide) ?_
 rw [upd_upd,putF_ne (by decide +kernel),putF_nil]
 walk_at "rd"
 refine r_kSet upd_same cl (na.at (by decide +kernel)) (by show 2 < 1000;decide) ?_
 rw [upd_upd,putF_ne (by decide +kernel),putF_ne (by decide +kernel),putF_nil]
 walk_at "rd"
 refine r_kSet upd_same cl (na.at (by decide +kernel)) (by show 3 < 1000;decide) ?_
 rw [upd_upd,putF_ne (by decide +kernel),putF_ne (by decide +kernel),putF_ne (by decide +kernel),putF_nil]
 walk_at "rd"
 exact q
def sp_WordForm___init__ (K:W.Frag) (C:Addr):Sp:=fun vs H Q _=>∃ (a dx:Addr) (sg:List Nat) (lo hi wd:Int) (f:Nat) (x:Str) (st:Bool),vs=[.ref a,.str (T sg),.int lo,.int hi,.int wd,.str (T [f]),.str x,.bl st]∧H a=some (.ins C dx [])∧Q .non (upd H a (.ins C dx (bfs wd f x st (wmore sg lo hi))))
theorem ok_WordForm___init__ {f:Addr} {fd:FuncData} (F:FunD K "__init__" "WordForm.__init__" s_WordForm___init__ f fd) (B:Blt mg) {c_Form:Addr} {c_WordForm:Addr} (m_Form:mg "Form" = some (.ref c_Form)) (C_Form_init:HasC P w K mg base CX0 c_Form "__init__" 1 ["self", "width", "fill", "side", "strict"] (sp_Form___init__ K))(cl:Cls K c_WordForm) (na:NoAttrs K c_WordForm (bns++wns)):FnOk P w K mg base CX0 2 f fd ["self", "signs", "least", "most", "width", "fill", "side", "strict"] (sp_WordForm___init__ K c_WordForm):=by classical
 refine F.ok sc_WordForm___init__ (fun vs H Q E h=>?_) (fun cdv A outer s H vs Q E hr h=>?_)
 ·obtain ⟨a,dx,sg,lo,hi,wd,f,x,st,rfl,e0,q⟩:=h
  rfl
 obtain ⟨a,dx,sg,lo,hi,wd,f,x,st,rfl,e0,q⟩:=h
 refine ⟨_,pss_cons (ps_expr (pe_cmethH C_Form_init pass0 hr rfl m_Form (pa_cons (pv 0) (pa_cons (pv 4) (pa_cons (pv 5) (pa_cons (pv 6) (pa_cons (pv 7) (pa_nil))))))))
  (pss_cons (ps_fld (pv 0) (pv 1) rfl)
  (pss_cons (ps_fld (pv 0) (pv 2) rfl)
  (pss_one (ps_fld (pv 0) (pv 3) rfl)))),?_⟩
 walk_at "st"
 have na0:NoAttrs K c_WordForm bns:=⟨na.1,na.2.1,na.2.2.1,na.2.2.2.1,trivial⟩
 walk_at "rd"
 refine ⟨c_WordForm,a,dx,wd,f,x,st,rfl,cl,na0,e0,?_⟩
 walk_at "rd"
 refine r_kSet upd_same cl (na.at (by decide +kernel)) (by show 4 < 1000;decide) ?_
 rw [upd_upd,bfs_put (by decide +kernel),putF_nil]
 walk_at "rd"
 refine r_kSet upd_same cl (na.at (by decide +kernel)) (by show 5 < 1000;decide) ?_
 rw [upd_upd,bfs_put (by decide +kernel),putF_ne (by decide +kernel),putF_nil]
 walk_at "rd"
 refine r_kSet upd_same cl (na.at (by decide +kernel)) (by show 6 < 1000;decide) ?_
 rw [upd_upd,bfs_put (by decide +kernel),putF_ne (by decide +kernel),putF_ne (by decide +kernel),putF_nil]
 walk_at "rd"
 exact q
def sp_ChoiceForm___init__ (K:W.Frag) (C:Addr):Sp:=fun vs H Q _=>∃ (a dx p:Addr) (ns:List (List Nat)) (wd:Int) (f:Nat) (x:Str) (st:Bool),vs=[.ref a,.ref p,.int wd,.str (T [f]),.str x,.bl st]∧H a=some (.ins C dx [])∧H p=some (.lst (tsV ns)) ∧
 ∀ L H',SB a H H'→H L=none→H' L=some (.lst (tsV ns))→H' a=some (.ins C dx (bfs wd f x st (cmore L)))→Q .non H'
theorem ok_ChoiceForm___init__ {f:Addr} {fd:FuncData} (F:FunD K "__init__" "ChoiceForm.__init__" s_ChoiceForm___init__ f fd) (B:Blt mg) {c_Form:Addr} {c_ChoiceForm:Addr} (m_Form:mg "Form" = some (.ref c_Form)) (C_Form_init:HasC P w K mg base CX0 c_Form "__init__" 1 ["self", "width", "fill", "side", "strict"] (sp_Form___init__ K))(cl:Cls K c_ChoiceForm) (na:NoAttrs K c_ChoiceForm (bns++cns)):FnOk P w K mg base CX0 2 f fd ["self", "names", "width", "fill", "side", "strict"] (sp_ChoiceForm___init__ K c_ChoiceForm):=by classical
 refine F.ok sc_ChoiceForm___init__ (fun vs H Q E h=>?_) (fun cdv A outer s H vs Q E hr h=>?_)
 ·obtain ⟨a,dx,p,ns,wd,f,x,st,rfl,e0,hp,q⟩:=h
  rfl
 obtain ⟨a,dx,p,ns,wd,f,x,st,rfl,e0,hp,q⟩:=h
 refine ⟨_,pss_cons (ps_expr (pe_cmethH C_Form_init pass0 hr rfl m_Form (pa_cons (pv 0) (pa_cons (pv 2) (pa_cons (pv 3) (pa_cons (pv 4) (pa_cons (pv 5) (pa_nil))))))))
  (pss_one (ps_fld (pv 0) (pe_callTy call_listOf rfl B.z_list bo_list (pa_cons (pv 1) (pa_nil))) rfl)),?_⟩
 walk_at "st"
 have na0:NoAttrs K c_ChoiceForm bns:=⟨na.1,na.2.1,na.2.2.1,na.2.2.2.1,trivial⟩
 walk_at "rd"
 refine ⟨c_ChoiceForm,a,dx,wd,f,x,st,rfl,cl,na0,e0,?_⟩
 walk_at "rd"
 have nap:p≠a:=fun z=>by rw [z,e0] at hp;cases hp
 refine r_listOf (SqL.of (show upd H a (.ins c_ChoiceForm dx (bfs wd f x st [])) p=some (.lst (tsV ns)) by rw [upd_ne nap];exact hp)) fun l H1 g1 n1 e1=>?_
 have nla:l≠a:=fun z=>by rw [z,upd_same] at n1;cases n1
 rw [upd_ne nla] at n1
 walk_at "rd"
 refine r_kSet (g1.at upd_same) cl (na.at (by decide +kernel)) (by show 4 < 1000;decide) ?_
 rw [bfs_put (by decide +kernel),putF_nil]
 walk_at "rd"
 refine q l _ (fun b o hb e=>?_) n1 (by rw [upd_ne nla];exact e1) upd_same
 rw [upd_ne hb]
 exact g1.at (by rw [upd_ne hb];exact e)
structure WdS (sg:List Nat) (lo hi wd:Int) (f:Nat) (x:Str):Prop where
 s1:1≤sg.length
 s2:sg.length≤200
 lo1:0≤lo
 lo2:lo≤hi
 hi2:hi≤24
 wd1:0≤wd
 wd2:wd≤40
 f:f < 127
 x:Side x
structure ChS (ns:List (List Nat)) (wd:Int) (f:Nat) (x:Str):Prop where
 n1:1≤ns.length
 n2:ns.length≤12
 len : ∀ t ∈ ns,1≤t.length∧t.length≤12
 nd:ns.Nodup
 wd1:0≤wd
 wd2:wd≤40
 f:f < 127
 x:Side x
def sp_WordForm_shortest_core (K:W.Frag) (C:Addr):Sp:=fun vs H Q _=>∃ (o:Addr) (sg:List Nat) (lo hi wd:Int) (f:Nat) (x:Str) (st:Bool),vs=[.ref o]∧FormAt K H o C wd f x st (wmore sg lo hi)∧WdS sg lo hi wd f x ∧ ∀ t:List Nat,(t.length:Int)=lo→Q (.str (T t)) H
def sp_ChoiceForm_shortest_core (K:W.Frag) (C:Addr):Sp:=fun vs H Q _=>∃ (o L:Addr) (ns:List (List Nat)) (wd:Int) (f:Nat) (x:Str) (st:Bool),vs=[.ref o]∧FormAt K H o C wd f x st (cmore L)∧SqL K H L (tsV ns)∧ChS ns wd f x ∧ ∀ t:List Nat,t ∈ ns→(∀ u ∈ ns,t.length≤u.length)→Q (.str (T t)) H
theorem ok_WordForm_shortest_core {f:Addr} {fd:FuncData} (F:FunD K "shortest_core" "WordForm.shortest_core" s_WordForm_shortest_core f fd) (B:Blt mg) {c_WordForm:Addr}:FnOk P w K mg base CX0 1 f fd ["self"] (sp_WordForm_shortest_core K c_WordForm):=by
 refine F.ok sc_WordForm_shortest_core (fun vs H Q E h=>?_) (fun cdv A outer s H vs Q E hr h=>?_)
 ·obtain ⟨o,sg,lo,hi,wd,f,x,st,rfl,F0,ok,q⟩:=h
  rfl
 obtain ⟨o,sg,lo,hi,wd,f,x,st,rfl,F0,ok,q⟩:=h
 refine ⟨_,pss_one (ps_ret (pe_op op_mulT (pe_ix ix_str (pe_fld (pv 0) rfl) (pe_int) (fun _ _=>rfl)) (pe_fld (pv 0) rfl))),?_⟩
 walk_at "st"
 have o1:=ok.s1;have o2:=ok.s2;have o3:=ok.lo1;have o4:=ok.lo2;have o5:=ok.hi2
 walk_at "rd"
 exact q _ (by rw [List.length_replicate];omega)
theorem ok_ChoiceForm_shortest_core {f:Addr} {fd:FuncData} (F:FunD K "shortest_core" "ChoiceForm.shortest_core" s_ChoiceForm_shortest_core f fd) (B:Blt mg) {c_ChoiceForm:Addr}:FnOk P w K mg base CX0 1 f fd ["self"] (sp_ChoiceForm_shortest_core K c_ChoiceForm):=by
 refine F.ok sc_ChoiceForm_shortest_core (fun vs H Q E h=>?_) (fun cdv A outer s H vs Q E hr h=>?_)
 ·obtain ⟨o,L,ns,wd,f,x,st,rfl,F0,hL,ok,q⟩:=h
  rfl
 obtain ⟨o,L,ns,wd,f,x,st,rfl,F0,hL,ok,q⟩:=h
 refine ⟨_,pss_one (ps_ret (pe_minLen rfl rfl B.z_min rfl B.z_len (pa_cons (pe_fld (pv 0) rfl) (pa_nil)))),?_⟩
 walk_at "st"
 walk_at "rd"
 exact ⟨_,rfl,L,ns,rfl,hL,(by have:=ok.n1;intro h;rw [h] at this;simp at this),fun t ht=>by have:=(ok.len t ht).2;omega,fun t ht hm=>q t ht hm⟩
def sp_Form_is_too_wide (K:W.Frag):Sp:=fun vs H Q _=>∃ (a C:Addr) (wd:Int) (f:Nat) (x:Str) (st:Bool) (more:List (Str × V)) (t:List Nat),vs=[.ref a,.str (T t)]∧FormAt K H a C wd f x st more∧t.length≤400∧Q (.bl (st && decide (wd < t.length))) H
theorem c_too_wide {K:W.Frag} {C a:Addr} {wd:Int} {f:Nat} {x:Str} {st:Bool} {more:List (Str × V)} {t:List Nat} {H:Hp} {Q:VK} {E:XK} (h1:FormAt K H a C wd f x st more) (h2:t.length≤400) (q:Q (.bl (st && decide (wd < t.length))) H):sp_Form_is_too_wide K (.ref a::([.str (T t)]++[])) H Q E:=⟨a,C,wd,f,x,st,more,t,rfl,h1,h2,q⟩
theorem ok_Form_is_too_wide {f:Addr} {fd:FuncData} (F:FunD K "is_too_wide" "Form.is_too_wide" s_Form_is_too_wide f fd) (B:Blt mg):FnOk P w K mg base CX0 1 f fd ["self", "core"] (sp_Form_is_too_wide K):=by
 refine F.ok sc_Form_is_too_wide (fun vs H Q E h=>?_) (fun cdv A outer s H vs Q E hr h=>?_)
 ·obtain ⟨a,C,wd,f,x,st,more,t,rfl,F0,h0,q⟩:=h
  rfl
 obtain ⟨a,C,wd,f,x,st,more,t,rfl,F0,h0,q⟩:=h
 refine ⟨_,pss_one (ps_ret (pe_and (pe_fld (pv 0) rfl) (pe_one (pe_cmpR op_gt (pe_callBH call_lenT B.z_len rfl bo_len (pa_cons (pv 1) (pa_nil))) (pe_fld (pv 0) rfl) (nomark _))))),?_⟩
 walk_at "st"
 walk_at "rd"
 ·rename_i hc;rw [hc] at q;exact q
 ·rename_i hc;rw [hc] at q;exact q
def sp_NumberForm_shortest_core (K:W.Frag) (C:Addr):Sp:=fun vs H Q _=>∃ (o:Addr) (fg pl b:Int) (sn:Str) (z:Int) (m pt:Nat) (wy:Str) (wd:Int) (f:Nat) (x:Str) (st:Bool),vs=[.ref o]∧FormAt K H o C wd f x st (nmore fg pl b sn z m pt wy)∧NumS fg pl b sn z m pt wy wd f x ∧ ∀ H',Same H H'→Q (.str (T (ncore pl b sn z m pt 0))) H'
theorem ok_NumberForm___init__ {f:Addr} {fd:FuncData} (F:FunD K "__init__" "NumberForm.__init__" s_NumberForm___init__ f fd) (B:Blt mg) {c_Form:Addr} {c_NumberForm:Addr} (m_Form:mg "Form" = some (.ref c_Form)) (C_Form_init:HasC P w K mg base CX0 c_Form "__init__" 1 ["self", "width", "fill", "side", "strict"] (sp_Form___init__ K))(cl:Cls K c_NumberForm) (na:NoAttrs K c_NumberForm (bns++nns)):FnOk P w K mg base CX0 2 f fd ["self", "figures", "places", "base", "sign", "size", "mark", "point", "way", "width", "fill", "side", "strict"] (sp_NumberForm___init__ K c_NumberForm):=by classical
 refine F.ok sc_NumberForm___init__ (fun vs H Q E h=>?_) (fun cdv A outer s H vs Q E hr h=>?_)
 ·obtain ⟨a,dx,fg,pl,b,sn,z,m,pt,wy,wd,f,x,st,rfl,e0,q⟩:=h
  rfl
 obtain ⟨a,dx,fg,pl,b,sn,z,m,pt,wy,wd,f,x,st,rfl,e0,q⟩:=h
 refine ⟨_,pss_cons (ps_expr (pe_cmethH C_Form_init pass0 hr rfl m_Form (pa_cons (pv 0) (pa_cons (pv 9) (pa_cons (pv 10) (pa_cons (pv 11) (pa_cons (pv 12) (pa_nil))))))))
  (pss_cons (ps_fld (pv 0) (pv 1) rfl)
  (pss_cons (ps_fld (pv 0) (pv 2) rfl)
  (pss_cons (ps_fld (pv 0) (pv 3) rfl)
  (pss_cons (ps_fld (pv 0) (pv 4) rfl)
  (pss_cons (ps_fld (pv 0) (pv 5) rfl)
  (pss_cons (ps_fld (pv 0) (pv 6) rfl)
  (pss_cons (ps_fld (pv 0) (pv 7) rfl)
  (pss_one (ps_fld (pv 0) (pv 8) rfl))))))))),?_⟩
 walk_at "st"
 walk_at "rd"
 refine ⟨c_NumberForm,a,dx,wd,f,x,st,rfl,cl,⟨na.1,na.2.1,na.2.2.1,na.2.2.2.1,trivial⟩,e0,?_⟩
 walk_at "rd"
 refine r_kSet upd_same cl (na.at (by decide +kernel)) (by show 4 < 1000;decide) ?_
 rw [upd_upd,bfs_put (by decide +kernel),putF_nil]
 walk_at "rd"
 refine r_kSet upd_same cl (na.at (by decide +kernel)) (by show 5 < 1000;decide) ?_
 rw [upd_upd,bfs_put (by decide +kernel),putF_ne (by decide +kernel),putF_nil]
 walk_at "rd"
 refine r_kSet upd_same cl (na.at (by decide +kernel)) (by show 6 < 1000;decide) ?_
 rw [upd_upd,bfs_put (by decide +kernel),putF_ne (by decide +kernel),putF_ne (by decide +kernel),putF_nil]
 walk_at "rd"
 refine r_kSet upd_same cl (na.at (by decide +kernel)) (by show 7 < 1000;decide) ?_
 rw [upd_upd,bfs_put (by decide +kernel),putF_ne (by decide +kernel),putF_ne (by decide +kernel),putF_ne (by decide +kernel),putF_nil]
 walk_at "rd"
 refine r_kSet upd_same cl (na.at (by decide +kernel)) (by show 8 < 1000;decide) ?_
 rw [upd_upd,bfs_put (by decide +kernel),putF_ne (by decide +kernel),putF_ne (by decide +kernel),putF_ne (by decide +kernel),putF_ne (by decide +kernel),putF_nil]
 walk_at "rd"
 refine r_kSet upd_same cl (na.at (by decide +kernel)) (by show 9 < 1000;decide) ?_
 rw [upd_upd,bfs_put (by decide +kernel),putF_ne (by decide +kernel),putF_ne (by decide +kernel),putF_ne (by decide +kernel),putF_ne (by decide +kernel),putF_ne (by decide +kernel),putF_nil]
 walk_at "rd"
 refine r_kSet upd_same cl (na.at (by decide +kernel)) (by show 10 < 1000;decide) ?_
 rw [upd_upd,bfs_put (by decide +kernel),putF_ne (by decide +kernel),putF_ne (by decide +kernel),putF_ne (by decide +kernel),putF_ne (by decide +kernel),putF_ne (by decide +kernel),putF_ne (by decide +kernel),putF_nil]
 walk_at "rd"
 refine r_kSet upd_same cl (na.at (by decide +kernel)) (by show 11 < 1000;decide) ?_
 rw [upd_upd,bfs_put (by decide +kernel),putF_ne (by decide +kernel),putF_ne (by decide +kernel),putF_ne (by decide +kernel),putF_ne (by decide +kernel),putF_ne (by decide +kernel),putF_ne (by decide +kernel),putF_ne (by decide +kernel),putF_nil]
 walk_at "rd"
 exact q
theorem ok_NumberForm_is_too_great {f:Addr} {fd:FuncData} (F:FunD K "is_too_great" "NumberForm.is_too_great" s_NumberForm_is_too_great f fd) (B:Blt mg) {c_NumberForm:Addr} (C_power_of:Has P w K mg base "power_of" 1 ["base", "times"] (sp_power_of K)):FnOk P w K mg base CX0 2 f fd ["self", "number"] (sp_NumberForm_is_too_great K c_NumberForm):=by
 refine F.ok sc_NumberForm_is_too_great (fun vs H Q E h=>?_) (fun cdv A outer s H vs Q E hr h=>?_)
 ·obtain ⟨a,fg,pl,b,sn,z,m,pt,wy,wd,f,x,st,n,rfl,F0,ok,q⟩:=h
  rfl
 obtain ⟨a,fg,pl,b,sn,z,m,pt,wy,wd,f,x,st,n,rfl,F0,ok,q⟩:=h
 refine ⟨_,pss_one (ps_ret (pe_cmpR op_ge (pv 1) (pe_callH C_power_of hr rfl (pa_cons (pe_fld (pv 0) rfl) (pa_cons (pe_op op_add (pe_fld (pv 0) rfl) (pe_fld (pv 0) rfl)) (pa_nil)))) (nomark _))),?_⟩
 walk_at "st"
 have o1:=ok.fg1;have o2:=ok.fg2;have o3:=ok.pl1;have o4:=ok.pl2;have o5:=ok.b1;have o6:=ok.b2
 walk_at "rd"
 exact q
theorem ncore_ok {fg pl b:Int} {sn:Str} {z:Int} {m pt:Nat} {wy:Str} {wd:Int} {f:Nat} {x:Str} {k:Int} (ok:NumS fg pl b sn z m pt wy wd f x) (h:k.natAbs < b.toNat ^ (fg+pl).toNat):NumB k.natAbs b pl∧Sgd sn (decide (k < 0)) (ncore pl b sn z m pt k)∧Asc (ncore pl b sn z m pt k)∧(ncore pl b sn z m pt k).length≤400:=by
 have o1:=ok.fg1;have o2:=ok.fg2;have o3:=ok.pl1;have o4:=ok.pl2;have o5:=ok.b1;have o6:=ok.b2
 have e1:b.toNat ^ (fg+pl).toNat≤b.toNat ^ (40+pl.toNat):=Nat.pow_le_pow_right (by omega) (by omega)
 have nb:NumB k.natAbs b pl:=⟨by omega,o5,o6,o3,o4,by omega⟩
 have bs:=bdy_spec (z:=z.toNat) (b:=b.toNat) (p:=pl.toNat) (n:=(k.natAbs:Int).toNat) (by omega) (by omega) (by omega) nb.2.2.2.2.2 ok.pt ok.m
 have e:bod sn (decide (k < 0)) (ncore pl b sn z m pt k)=bdI k.natAbs b pl pt z m:=bod_sg
 have sl:=sg_len ok.sn (decide (k < 0)) (bdI k.natAbs b pl pt z m)
 have sa:=st_asc ok.sn (decide (k < 0))
 refine ⟨nb,⟨by rw [e];exact bs.1,by rw [e];rfl⟩,(sa.1.app bs.2.1).app sa.2,?_⟩
 have:=bs.2.2
 unfold ncore
 unfold bdI at sl ⊢
 omega
theorem grid_0 {wy:Str} {P:Int} (hP:0 < P):grid wy 0 1 P=0:=by
 unfold grid
 simp
theorem ok_NumberForm_core {f:Addr} {fd:FuncData} (F:FunD K "core" "NumberForm.core" s_NumberForm_core f fd) (B:Blt mg) {c_NumberForm:Addr} (cl_NumberForm:Cls K c_NumberForm) (C_gridded:Has P w K mg base "gridded" 2 ["value", "base", "places", "way"] (sp_gridded K)) (C_body_of:Has P w K mg base "body_of" 3 ["number", "base", "places", "point", "size", "mark"] (sp_body_of K)) (C_signed:Has P w K mg base "signed" 2 ["body", "style", "below"] (sp_signed K)) (C_is_fraction:Has P w K mg base "is_fraction" 2 ["thing"] (sp_is_fraction K)) (M_NumberForm_is_too_great:HasM P w K mg base CX0 c_NumberForm "is_too_great" 2 ["self", "number"] (sp_NumberForm_is_too_great K c_NumberForm)):FnOk P w K mg base CX0 4 f fd ["self", "value"] (sp_NumberForm_core K c_NumberForm):=by classical
 refine F.ok sc_NumberForm_core (fun vs H Q E h=>?_) (fun cdv A outer s H vs Q E hr h=>?_)
 ·obtain ⟨o,p,fg,pl,b,sn,z,m,pt,wy,wd,f,x,st,rfl,F0,ok,hp,q⟩:=h
  rfl
 obtain ⟨o,p,fg,pl,b,sn,z,m,pt,wy,wd,f,x,st,rfl,F0,ok,hp,q⟩:=h
 refine ⟨_,pss_cons (ps_if (pt_not (pt_val (pe_callH C_is_fraction hr rfl (pa_cons (pv 1) (pa_nil))))) (pss_one (ps_never)) (pss_nil))
  (pss_cons (ps_set (i:=2) sc_NumberForm_core.nd rfl (Or.inl rfl) (pe_callH C_gridded hr rfl (pa_cons (pv 1) (pa_cons (pe_fld (pv 0) rfl) (pa_cons (pe_fld (pv 0) rfl) (pa_cons (pe_fld (pv 0) rfl) (pa_nil)))))))
  (pss_cons (ps_if (pt_val (pe_methH M_NumberForm_is_too_great cl_NumberForm pass0 hr (pv 0) (pa_cons (pe_callBH call_absN B.z_abs rfl bo_abs (pa_cons (pv 2) (pa_nil))) (pa_nil)))) (pss_one (ps_never)) (pss_nil))
  (pss_cons (ps_set (i:=3) sc_NumberForm_core.nd rfl (Or.inl rfl) (pe_callH C_body_of hr rfl (pa_cons (pe_callBH call_absN B.z_abs rfl bo_abs (pa_cons (pv 2) (pa_nil))) (pa_cons (pe_fld (pv 0) rfl) (pa_cons (pe_fld (pv 0) rfl) (pa_cons (pe_fld (pv 0) rfl) (pa_cons (pe_fld (pv 0) rfl) (pa_cons (pe_fld (pv 0) rfl) (pa_nil)))))))))
  (pss_one (ps_ret (pe_callH C_signed hr rfl (pa_cons (pv 3) (pa_cons (pe_fld (pv 0) rfl) (pa_cons (pe_cmpR op_lt (pv 2) (pe_int) (nomark _)) (pa_nil)))))))))),?_⟩
 walk_at "st"
 have o1:=ok.fg1;have o2:=ok.fg2;have o3:=ok.pl1;have o4:=ok.pl2;have o5:=ok.b1;have o6:=ok.b2;have o7:=ok.sn;have o8:=ok.wy;have o9:=ok.z1;have o10:=ok.z2
 have gc:Int.gcd 0 1=1:=by decide
 have P0:0 < b ^ pl.toNat:=Int.pow_pos (by omega)
 have L0:0 < b ^ (fg+pl).toNat:=Int.pow_pos (by omega)
 have L1:0 < b.toNat ^ (fg+pl).toNat:=Nat.pow_pos (by omega)
 have gr:GrB 0 1:=⟨by decide +kernel,by decide +kernel,by decide,by decide +kernel⟩
 obtain ⟨nb,n2,n3,n4⟩:=ncore_ok (k:=0) ok (by show 0 < _;exact L1)
 unfold ncore at q n4
 have sl:=sg_len o7 (decide ((0:Int) < 0)) (bdI (0:Int).natAbs b pl pt z m)
 have g0:grid wy 0 1 (b ^ pl.toNat)=0:=grid_0 P0
 walk_at "rd"
 rename_i k1 hk1 k0 hk0
 rw [g0]
 have hk:k0=(((0:Int).natAbs:Nat):Int):=by show k0=0;omega
 subst hk
 refine c_body_of nb o9 o10 fun H1 g1=>?_
 have F1:=F0.same g1
 walk_at "rd"
 exact q _ g1
theorem ok_NumberForm_shortest_core {f:Addr} {fd:FuncData} (F:FunD K "shortest_core" "NumberForm.shortest_core" s_NumberForm_shortest_core f fd) (B:Blt mg) {c_NumberForm:Addr} (cl_NumberForm:Cls K c_NumberForm) (M_NumberForm_core:HasM P w K mg base CX0 c_NumberForm "core" 4 ["self", "value"] (sp_NumberForm_core K c_NumberForm)):FnOk P w K mg base CX0 5 f fd ["self"] (sp_NumberForm_shortest_core K c_NumberForm):=by
 refine F.ok sc_NumberForm_shortest_core (fun vs H Q E h=>?_) (fun cdv A outer s H vs Q E hr h=>?_)
 ·obtain ⟨o,fg,pl,b,sn,z,m,pt,wy,wd,f,x,st,rfl,F0,ok,q⟩:=h
  rfl
 obtain ⟨o,fg,pl,b,sn,z,m,pt,wy,wd,f,x,st,rfl,F0,ok,q⟩:=h
 refine ⟨_,pss_one (ps_ret (pe_methH M_NumberForm_core cl_NumberForm pass0 hr (pv 0) (pa_cons (pe_tup (pa_cons (pe_int) (pa_cons (pe_int) (pa_nil)))) (pa_nil)))),?_⟩
 walk_at "st"
 walk_at "rd"
 rename_i p1 H1 g1 e1
 refine c_core (F0.same g1) ok e1 fun H2 g2=>?_
 exact q _ (g1.trans g2)
def sp_Form_puts_some (K:W.Frag) (CN CW CC:Addr):Sp:=fun vs H Q _=>(∃ (o:Addr) (fg pl b:Int) (sn:Str) (z:Int) (m pt:Nat) (wy:Str) (wd:Int) (f:Nat) (x:Str) (st:Bool),vs=[.ref o]∧FormAt K H o CN wd f x st (nmore fg pl b sn z m pt wy)∧NumS fg pl b sn z m pt wy wd f x∧(st && decide (wd < ((ncore pl b sn z m pt 0).length:Int)))=false ∧ ∀ H',Same H H'→Q (.bl true) H') ∨
 (∃ (o:Addr) (sg:List Nat) (lo hi wd:Int) (f:Nat) (x:Str) (st:Bool),vs=[.ref o]∧FormAt K H o CW wd f x st (wmore sg lo hi)∧WdS sg lo hi wd f x∧(st=true→lo≤wd)∧Q (.bl true) H) ∨
 (∃ (o L:Addr) (ns:List (List Nat)) (wd:Int) (f:Nat) (x:Str) (st:Bool),vs=[.ref o]∧FormAt K H o CC wd f x st (cmore L)∧SqL K H L (tsV ns)∧ChS ns wd f x∧(st=true → ∃ t ∈ ns,(t.length:Int)≤wd)∧Q (.bl true) H)
theorem not_wide {st:Bool} {wd n:Int} (h:st=true→n≤wd):(st && decide (wd < n))=false:=by
 cases st with
 | false=>rfl
 | true=>rw [Bool.true_and];exact decide_eq_false (by have:=h rfl;omega)
theorem ok_Form_puts_some {f:Addr} {fd:FuncData} (F:FunD K "puts_some" "Form.puts_some" s_Form_puts_some f fd) (B:Blt mg) {c_NumberForm:Addr} {c_WordForm:Addr} {c_ChoiceForm:Addr} (cl_NumberForm:Cls K c_NumberForm) (cl_WordForm:Cls K c_WordForm) (cl_ChoiceForm:Cls K c_ChoiceForm) (M_NumberForm_is_too_wide:HasM P w K mg base CX0 c_NumberForm "is_too_wide" 1 ["self", "core"] (sp_Form_is_too_wide K)) (M_WordForm_is_too_wide:HasM P w K mg base CX0 c_WordForm "is_too_wide" 1 ["self", "core"] (sp_Form_is_too_wide K)) (M_ChoiceForm_is_too_wide:HasM P w K mg base CX0 c_ChoiceForm "is_too_wide" 1 ["self", "core"] (sp_Form_is_too_wide K)) (M_NumberForm_shortest_core:HasM P w K mg base CX0 c_NumberForm "shortest_core" 5 ["self"] (sp_NumberForm_shortest_core K c_NumberForm)) (M_WordForm_shortest_core:HasM P w K mg base CX0 c_WordForm "shortest_core" 1 ["self"] (sp_WordForm_shortest_core K c_WordForm)) (M_ChoiceForm_shortest_core:HasM P w K mg base CX0 c_ChoiceForm "shortest_core" 1 ["self"] (sp_ChoiceForm_shortest_core K c_ChoiceForm)):FnOk P w K mg base CX0 6 f fd ["self"] (sp_Form_puts_some K c_NumberForm c_WordForm c_ChoiceForm):=by classical
 refine F.ok sc_Form_puts_some (fun vs H Q E h=>?_) (fun cdv A outer s H vs Q E hr h=>?_)
 ·obtain ⟨o,fg,pl,b,sn,z,m,pt,wy,wd,f,x,st,rfl,F0,ok,hs,q⟩ | ⟨o,sg,lo,hi,wd,f,x,st,rfl,F0,ok,hs,q⟩ | ⟨o,L,ns,wd,f,x,st,rfl,F0,hL,ok,hs,q⟩:=h
  all_goals rfl
 refine ⟨_,pss_one (ps_ret (pe_not (pe_orE (pe_methH M_NumberForm_is_too_wide cl_NumberForm pass0 hr (pv 0) (pa_cons (pe_methH0 M_NumberForm_shortest_core cl_NumberForm pass0 hr (pv 0)) (pa_nil))) (pe_orE (pe_methH M_WordForm_is_too_wide cl_WordForm pass0 hr (pv 0) (pa_cons (pe_methH0 M_WordForm_shortest_core cl_WordForm pass0 hr (pv 0)) (pa_nil))) (pe_methH M_ChoiceForm_is_too_wide cl_ChoiceForm pass0 hr (pv 0) (pa_cons (pe_methH0 M_ChoiceForm_shortest_core cl_ChoiceForm pass0 hr (pv 0)) (pa_nil))))))),?_⟩
 obtain ⟨o,fg,pl,b,sn,z,m,pt,wy,wd,f,x,st,rfl,F0,ok,hs,q⟩ | ⟨o,sg,lo,hi,wd,f,x,st,rfl,F0,ok,hs,q⟩ | ⟨o,L,ns,wd,f,x,st,rfl,F0,hL,ok,hs,q⟩:=h
 all_goals walk_at "st"
 ·obtain ⟨nb,n2,n3,n4⟩:=ncore_ok (k:=0) ok (by show 0 < b.toNat ^ (fg+pl).toNat;exact Nat.pow_pos (by have:=ok.b1;omega))
  walk_at "rd"
  refine r_orL ?_
  walk_at "rd"
  refine ⟨o,fg,pl,b,sn,z,m,pt,wy,wd,f,x,st,rfl,F0,ok,fun H1 g1=>?_⟩
  have F1:=F0.same g1
  walk_at "rd"
  refine c_too_wide F1 n4 ⟨_,rfl,?_⟩
  rw [hs]
  exact q _ g1
 ·have o1:=ok.lo2;have o2:=ok.hi2
  walk_at "rd"
  refine r_orR (r_orL ?_)
  walk_at "rd"
  refine ⟨o,sg,lo,hi,wd,f,x,st,rfl,F0,ok,fun t ht=>?_⟩
  walk_at "rd"
  refine c_too_wide F0 (by omega) ⟨_,rfl,?_⟩
  rw [ht,not_wide hs]
  exact q
 ·walk_at "rd"
  refine r_orR (r_orR ?_)
  walk_at "rd"
  refine ⟨o,L,ns,wd,f,x,st,rfl,F0,hL,ok,fun t ht hm=>?_⟩
  walk_at "rd"
  refine c_too_wide F0 (by have:=(ok.len t ht).2;omega) ⟨_,rfl,?_⟩
  rw [not_wide (n:=t.length) (fun z=>by obtain ⟨u,hu,hw⟩:=hs z;have:=hm u hu;omega)]
  exact q
abbrev k_word:List Nat:=[119,111,114,100]
abbrev k_choice:List Nat:=[99,104,111,105,99,101]
abbrev k_blank:List Nat:=[98,108,97,110,107]
def wLast (wd:Int) (f:Nat) (x:Str) (cf cs st:Bool):List (List Nat):=opt (decide (0 < wd)) [k_width,dw wd]++(opt cf [k_fill,sw f]++(opt cs [k_side,Lt x]++(opt st [k_strict]++[])))
theorem last_hd {wd:Int} {f:Nat} {x:Str} {cf cs st:Bool} {k:List Nat} (h1:k≠k_width) (h2:k≠k_fill) (h3:k≠k_side) (h4:k≠k_strict):(wLast wd f x cf cs st).head? ≠ some k:=
 hd_opt h1 (hd_opt h2 (hd_opt h3 (hd_opt h4 (by intro z;cases z))))
theorem side3 {x:Str} (h:Side x):Lt x ∈ [Lt "left", Lt "right", Lt "middle"]:=by
 rcases h with rfl | rfl | rfl
 ·exact List.mem_cons_self ..
 ·exact List.mem_cons_of_mem _ (List.mem_cons_self ..)
 ·exact List.mem_cons_of_mem _ (List.mem_cons_of_mem _ (List.mem_cons_self ..))
def SqM (K:W.Frag) (p:Addr) (xs:List V):Prop:=∀ H:Hp,SqT K H p xs
def sgB (cb:Bool) (sg:List Nat):List Nat:=if cb=true then 32::sg else sg
def sp_read_word_form (K:W.Frag) (CW CF:Addr):Sp:=fun vs H Q _=>∃ (a:Addr) (w sg:List Nat) (cb:Bool) (lo hi wd:Int) (f:Nat) (x:Str) (cf cs st:Bool),vs=[.ref a]∧SgW w sg∧WdS (sgB cb sg) lo hi wd f x∧(cf=false→f=32)∧(cs=false→x = "left") ∧
 Wr K CW H a (w::dw lo::dw hi::(opt cb [k_blank]++wLast wd f x cf cs st)) ∧ ∀ o H',SBW a H H'→Wr K CW H' a []→FormAt K H' o CF wd f x st (wmore (sgB cb sg) lo hi)→Q (.ref o) H'
theorem ok_read_word_form {f:Addr} {fd:FuncData} (F:Fun K "read_word_form" "read_word_form" s_read_word_form f fd) (B:Blt mg) {c_Words:Addr} {c_WordForm:Addr} (cl_Words:Cls K c_Words) (m_WordForm:mg "WordForm" = some (.ref c_WordForm)) (C_read_last:Has P w K mg base "read_last" 4 ["words", "sides", "side"] (sp_read_last K c_Words)) (M_Words_take_signs:HasM P w K mg base CX0 c_Words "take_signs" 3 ["self"] (sp_Words_take_signs K c_Words)) (M_Words_take_number:HasM P w K mg base CX0 c_Words "take_number" 3 ["self", "least", "most"] (sp_Words_take_number K c_Words)) (M_Words_has_clause:HasM P w K mg base CX0 c_Words "has_clause" 2 ["self", "word"] (sp_Words_has_clause K c_Words)) (I_WordForm_init:HasI P w K mg base CX0 c_WordForm 2 ["self", "signs", "least", "most", "width", "fill", "side", "strict"] (sp_WordForm___init__ K c_WordForm)) {t_SIDES:Addr} (g_SIDES:mg "SIDES" = some (.ref t_SIDES))(cl:Cls K c_WordForm) (na:NoAttrs K c_WordForm (bns++wns)) (hS:SqM K t_SIDES (tsV [Lt "left", Lt "right", Lt "middle"])):FnOk P w K mg base CX0 5 f fd ["words"] (sp_read_word_form K c_Words c_WordForm):=by classical
 refine F.ok sc_read_word_form (fun vs H Q E h=>?_) (fun cdv A outer s H vs Q E hr h=>?_)
 ·obtain ⟨a,w,sg,cb,lo,hi,wd,f,x,cf,cs,st,rfl,hw,ok,i1,i2,W,q⟩:=h
  rfl
 obtain ⟨a,w,sg,cb,lo,hi,wd,f,x,cf,cs,st,rfl,hw,ok,i1,i2,W,q⟩:=h
 refine ⟨_,pss_cons (ps_set (i:=1) sc_read_word_form.nd rfl (Or.inl rfl) (pe_methH0 M_Words_take_signs cl_Words pass0 hr (pv 0)))
  (pss_cons (ps_set (i:=2) sc_read_word_form.nd rfl (Or.inl rfl) (pe_methH M_Words_take_number cl_Words pass0 hr (pv 0) (pa_cons (pe_int) (pa_cons (pe_int) (pa_nil)))))
  (pss_cons (ps_set (i:=3) sc_read_word_form.nd rfl (Or.inl rfl) (pe_methH M_Words_take_number cl_Words pass0 hr (pv 0) (pa_cons (pv 2) (pa_cons (pe_int) (pa_nil)))))
  (pss_cons (ps_if (pt_val (pe_methH M_Words_has_clause cl_Words pass0 hr (pv 0) (pa_cons (pe_strT (l:=[98,108,97,110,107]) (by decide +kernel)) (pa_nil)))) (pss_one (ps_set (i:=1) sc_read_word_form.nd rfl (Or.inl rfl) (pe_op op_addS (pe_strT (l:=[32]) (by decide +kernel)) (pv 1)))) (pss_nil))
  (pss_cons (ps_set (i:=4) sc_read_word_form.nd rfl (Or.inl rfl) (pe_callH C_read_last hr rfl (pa_cons (pv 0) (pa_cons (pe_glob rfl g_SIDES (v:=.ref t_SIDES) rfl) (pa_cons (pe_str) (pa_nil))))))
  (pss_one (ps_ret (pe_makeH I_WordForm_init pass0 hr rfl m_WordForm (pa_cons (pv 1) (pa_cons (pv 2) (pa_cons (pv 3) (pa_cons (pe_ix ix_tup (pv 4) (pe_int) (fun _ _=>rfl)) (pa_cons (pe_ix ix_tup (pv 4) (pe_int) (fun _ _=>rfl)) (pa_cons (pe_ix ix_tup (pv 4) (pe_int) (fun _ _=>rfl)) (pa_cons (pe_ix ix_tup (pv 4) (pe_int) (fun _ _=>rfl)) (pa_nil) se_Subscript) se_Subscript) se_Subscript) se_Subscript) se_Name) se_Name) se_Name)))))))),?_⟩
 walk_at "st"
 have o1:=ok.lo1;have o2:=ok.lo2;have o3:=ok.hi2;have o4:=ok.wd1;have o5:=ok.wd2
 walk_at "rd"
 refine c_tsgs W hw fun H1 s1 W1=>?_
 walk_at "rd"
 refine c_tnum W1 o1 (by omega) o1 (by omega) fun H2 s2 W2=>?_
 walk_at "rd"
 refine c_tnum W2 o2 o3 (by omega) (by omega) fun H3 s3 W3=>?_
 have sA:=s1.trans (s2.trans s3)
 walk_at "rd"
 have l200:sg.length≤200:=by have:=ok.s2;unfold sgB at this;split at this <;> (try rw [List.length_cons] at this) <;> omega
 refine c_has W3 (last_hd (by decide) (by decide) (by decide) (by decide)) (fun hc H4 s4 W4=>?_) (fun hc W4=>?_)
 ·subst hc
  walk_at "rd"
  refine ⟨a,t_SIDES,_, "left", x,wd,f,cf,cs,st,rfl,hS _,o4,o5,side3 ok.x,i1,i2,W4,fun p H6 s6 W6 e6=>?_⟩
  walk_at "rd"
  intro o dx no nd ne
  refine ⟨o,dx,(32::sg),lo,hi,wd,f,x,st,rfl,upd_same,?_⟩
  have F0:FormAt K (upd (upd (upd H6 dx (.own o)) o (.ins c_WordForm dx [])) o (.ins c_WordForm dx (bfs wd f x st (wmore (32::sg) lo hi)))) o c_WordForm wd f x st (wmore (32::sg) lo hi):=⟨⟨dx,upd_same⟩,cl,na⟩
  have g7:Same H6 (upd (upd (upd H6 dx (.own o)) o (.ins c_WordForm dx [])) o (.ins c_WordForm dx (bfs wd f x st (wmore (32::sg) lo hi)))):=same_upd (same_upd (same_upd (Same.refl _) nd) no) no
  generalize upd (upd (upd H6 dx (.own o)) o (.ins c_WordForm dx [])) o (.ins c_WordForm dx (bfs wd f x st (wmore (32::sg) lo hi)))=H7 at F0 g7 ⊢
  exact ⟨rfl,q o H7 (((sA.trans s4).trans s6).then g7) (W6.same g7) F0⟩
 ·subst hc
  walk_at "rd"
  refine ⟨a,t_SIDES,_, "left", x,wd,f,cf,cs,st,rfl,hS _,o4,o5,side3 ok.x,i1,i2,W4,fun p H6 s6 W6 e6=>?_⟩
  walk_at "rd"
  intro o dx no nd ne
  refine ⟨o,dx,sg,lo,hi,wd,f,x,st,rfl,upd_same,?_⟩
  have F0:FormAt K (upd (upd (upd H6 dx (.own o)) o (.ins c_WordForm dx [])) o (.ins c_WordForm dx (bfs wd f x st (wmore sg lo hi)))) o c_WordForm wd f x st (wmore sg lo hi):=⟨⟨dx,upd_same⟩,cl,na⟩
  have g7:Same H6 (upd (upd (upd H6 dx (.own o)) o (.ins c_WordForm dx [])) o (.ins c_WordForm dx (bfs wd f x st (wmore sg lo hi)))):=same_upd (same_upd (same_upd (Same.refl _) nd) no) no
  generalize upd (upd (upd H6 dx (.own o)) o (.ins c_WordForm dx [])) o (.ins c_WordForm dx (bfs wd f x st (wmore sg lo hi)))=H7 at F0 g7 ⊢
  exact ⟨rfl,q o H7 ((sA.trans s6).then g7) (W6.same g7) F0⟩
def sp_read_choice_form (K:W.Frag) (CW CF:Addr):Sp:=fun vs H Q _=>∃ (a:Addr) (ns:List (List Nat)) (wd:Int) (f:Nat) (x:Str) (cf cs st:Bool),vs=[.ref a]∧ChS ns wd f x∧(cf=false→f=32)∧(cs=false→x = "left") ∧
 Wr K CW H a (dw ns.length::(ns++wLast wd f x cf cs st)) ∧ ∀ o L H',SBW a H H'→Wr K CW H' a []→FormAt K H' o CF wd f x st (cmore L)→H L=none→H' L=some (.lst (tsV ns))→Q (.ref o) H'
theorem wr_upd {K:W.Frag} {C a l L dx:Addr} {n:Nat} {H:Hp} {r:List (List Nat)} {o:HO} (w:Wr K C H a r) (e:H a=some (.ins C dx (wfs L n))) (h1:a≠l) (h2:L≠l):Wr K C (upd H l o) a r:=by
 obtain ⟨d,L',ws,n',e1,e2,e3,e4,e5⟩:=w
 rw [e] at e1
 simp only [Option.some.injEq,HO.ins.injEq,true_and] at e1
 have eL:=wfs_inj e1.2
 subst eL
 exact ⟨d,L,ws,n',by rw [upd_ne h1,e,e1.1,e1.2],by rw [upd_ne h2];exact e2,e3,e4,e5⟩
theorem ok_read_choice_form {f : Addr} {fd : FuncData} (F : Fun K "read_choice_form" "read_choice_form" s_read_choice_form f fd) (B : Blt mg) {c_Words : Addr} {c_ChoiceForm : Addr} (cl_Words : Cls K c_Words) (m_ChoiceForm : mg "ChoiceForm" = some (.ref c_ChoiceForm)) (C_read_last : Has P w K mg base "read_last" 4 ["words", "sides", "side"] (sp_read_last K c_Words)) (M_Words_take_number : HasM P w K mg base CX0 c_Words "take_number" 3 ["self", "least", "most"] (sp_Words_take_number K c_Words)) (I_ChoiceForm_init : HasI P w K mg base CX0 c_ChoiceForm 2 ["self", "names", "width", "fill", "side", "strict"] (sp_ChoiceForm___init__ K c_ChoiceForm)) (M_Words_take_name : HasM P w K mg base CX0 c_Words "take_name" 2 ["self", "names"] (sp_Words_take_name K c_Words)) {t_SIDES : Addr} (g_SIDES : mg "SIDES" = some (.ref t_SIDES))(cl : Cls K c_ChoiceForm) (na : NoAttrs K c_ChoiceForm (bns ++ cns)) (hS : SqM K t_SIDES (tsV [Lt "left", Lt "right", Lt "middle"])) : FnOk P w K mg base CX0 5 f fd ["words"] (sp_read_choice_form K c_Words c_ChoiceForm) := by classical
  refine F.ok sc_read_choice_form (fun vs H Q E h => ?_) (fun cdv A outer s H vs Q E hr h => ?_)
  · obtain ⟨a, ns, wd, f, x, cf, cs, st, rfl, ok, i1, i2, W, q⟩ := h
    rfl
  obtain ⟨a, ns, wd, f, x, cf, cs, st, rfl, ok, i1, i2, W, q⟩ := h
  refine ⟨_, pss_cons (ps_set (i := 1) sc_read_choice_form.nd rfl (Or.inl rfl) (pe_methH M_Words_take_number cl_Words pass0 hr (pv 0) (pa_cons (pe_int) (pa_cons (pe_int) (pa_nil)))))
    (pss_cons (ps_set (i := 2) sc_read_choice_form.nd rfl (Or.inl rfl) (pe_lst (pa_nil)))
    (pss_cons (ps_for PassesOwn.never rfl (pi_range1 rfl B.z_range (pa_cons (pv 1) (pa_nil))) (pg_name (i := 3) sc_read_choice_form.nd rfl (Or.inl rfl)) (pss_one (ps_expr (pe_bm PySem.F.plainAttrs_list PySem.F.slot_list_append PySem.F.type_list_append mt_append (pv 2) (pa_cons (pe_methH M_Words_take_name cl_Words pass0 hr (pv 0) (pa_cons (pv 2) (pa_nil))) (pa_nil))))))
    (pss_cons (ps_set (i := 4) sc_read_choice_form.nd rfl (Or.inl rfl) (pe_callH C_read_last hr rfl (pa_cons (pv 0) (pa_cons (pe_glob rfl g_SIDES (v := .ref t_SIDES) rfl) (pa_cons (pe_str) (pa_nil))))))
    (pss_one (ps_ret (pe_makeH I_ChoiceForm_init pass0 hr rfl m_ChoiceForm (pa_cons (pv 2) (pa_cons (pe_ix ix_tup (pv 4) (pe_int) (fun _ _ => rfl)) (pa_cons (pe_ix ix_tup (pv 4) (pe_int) (fun _ _ => rfl)) (pa_cons (pe_ix ix_tup (pv 4) (pe_int) (fun _ _ => rfl)) (pa_cons (pe_ix ix_tup (pv 4) (pe_int) (fun _ _ => rfl)) (pa_nil)))))))))))), ?_⟩
  walk_at "st"
  have o1 := ok.n1; have o2 := ok.n2; have o4 := ok.wd1; have o5 := ok.wd2
  walk_at "rd"
  refine c_tnum W (by omega) (by omega) (by omega) (by omega) fun H1 s1 W1 => ?_
  refine r_name ?_
  refine r_seq (r_asg (r_lst (r_nil (r_kLstF (by decide) fun l hl => ?_))))
  have W1' := W1
  obtain ⟨dx, L, ws, n0, ea, eL, _⟩ := W1'
  have nal : a ≠ l := fun z => by rw [← z, ea] at hl; cases hl
  have nLl : L ≠ l := fun z => by rw [← z, eL] at hl; cases hl
  walk_at "rd"
  refine r_kForR (by omega) (by omega) (fun i σ H' => (∀ b o, b ≠ a → b ≠ l → H1 b = some o → H' b = some o) ∧ (∃ n', H' a = some (.ins c_Words dx (wfs L n'))) ∧ Wr K c_Words H' a (ns.drop i ++ wLast wd f x cf cs st) ∧ H' l = some (.lst (tsV (ns.take i))) ∧ ∃ r : Option V, σ = [some (.ref a), some (.int ns.length), some (.ref l), r, none])
    ⟨fun b o h1 h2 e => by rw [upd_ne h2]; exact e, ⟨n0, by rw [upd_ne nal]; exact ea⟩, wr_upd W1 ea nal nLl, upd_same, none, rfl⟩ ?_ ?_
  · rintro i σ H2 hlt ⟨k1, ⟨n1, ea1⟩, W2, el, r, rfl⟩
    have hi : i < ns.length := by omega
    have mem : ns[i] ∈ ns := List.getElem_mem hi
    rw [List.drop_eq_getElem_cons hi, List.cons_append] at W2
    have nin : ns[i] ∉ ns.take i := fun h => by
      obtain ⟨j, hj, ej⟩ := List.mem_iff_getElem.mp h
      rw [List.length_take] at hj
      rw [List.getElem_take] at ej
      exact (List.pairwise_iff_getElem.mp ok.nd) j i (by omega) hi (by omega) ej
    walk_at "rd"
    refine c_tname W2 (SqL.of el) (ok.len _ mem).1 (ok.len _ mem).2 nin fun H3 s3 W3 => ?_
    have el3 := s3.lst W2 el
    obtain ⟨n3, ea3⟩ := s3.own _ _ _ _ ea1
    walk_at "rd"
    refine r_append el3 (small1000 (by rw [show (tsV (ns.take i)).length = (ns.take i).length from List.length_map _, List.length_take]; omega)) ?_
    walk_at "rd"
    refine ⟨fun b o h1 h2 e => by rw [upd_ne h2]; exact s3.oth b o h1 (k1 b o h1 h2 e), ⟨n3, by rw [upd_ne nal]; exact ea3⟩, wr_upd W3 ea3 nal nLl, ?_, _, rfl⟩
    rw [upd_same, List.take_succ_eq_append_getElem hi]
    unfold tsV; rw [List.map_append]; rfl
  · rintro σ H2 ⟨k1, ⟨n1, ea1⟩, W2, el, r, rfl⟩
    rw [Int.toNat_natCast] at W2 el
    rw [List.drop_length, List.nil_append] at W2
    rw [List.take_length] at el
    have s12 : SBW a H1 H2 := ⟨fun b o hb e => k1 b o hb (fun z => by rw [z, hl] at e; cases e) e, fun C d L' n' e => by
      rw [ea] at e
      simp only [Option.some.injEq, HO.ins.injEq] at e
      obtain ⟨rfl, rfl, e3⟩ := e
      rw [← wfs_inj e3]; exact ⟨n1, ea1⟩⟩
    walk_at "rd"
    refine ⟨a, t_SIDES, _, "left", x, wd, f, cf, cs, st, rfl, hS _, o4, o5, side3 ok.x, i1, i2, W2, fun p H3 s3 W3 e3 => ?_⟩
    have el3 := s3.lst W2 el
    have s13 := (s1.trans s12).trans s3
    walk_at "rd"
    intro o dx' no nd ne
    have g4 : Same H3 (upd (upd H3 dx' (.own o)) o (.ins c_ChoiceForm dx' [])) := same_upd (same_upd (Same.refl _) nd) no
    refine ⟨o, dx', l, ns, wd, f, x, st, rfl, upd_same, g4.at el3, fun L' H4 s4 n4 e4 e4' => ?_⟩
    have g5 : Same H3 H4 := fun b u e => s4 b u (fun z => by rw [z, no] at e; cases e) (g4.at e)
    have nL' : H3 L' = none := by
      cases hL' : H3 L' with
      | none => rfl
      | some u => rw [g4.at hL'] at n4; cases n4
    have nL0 : H L' = none := by
      cases hL' : H L' with
      | none => rfl
      | some u =>
        by_cases z : L' = a
        · subst z
          obtain ⟨_, _, _, _, ea3, _⟩ := W3
          rw [ea3] at nL'; cases nL'
        · rw [s13.oth L' u z hL'] at nL'; cases nL'
    exact ⟨rfl, q o L' H4 (s13.then g5) (W3.same g5) ⟨⟨dx', e4'⟩, cl, na⟩ nL0 e4⟩
def wWay (wy:Str) (cw:Bool) (r:List (List Nat)):List (List Nat):=opt cw [k_way,Lt wy]++r
def wPoint (pt:Nat) (cp:Bool) (r:List (List Nat)):List (List Nat):=opt cp [k_point,sw pt]++r
def wGroups (z:Int) (m:Nat) (r:List (List Nat)):List (List Nat):=opt (decide (0 < z)) [k_groups,dw z,sw m]++r
def wSign (sn:Str) (cg:Bool) (r:List (List Nat)):List (List Nat):=opt cg [k_sign,Lt sn]++r
def wBase (b:Int) (cb:Bool) (r:List (List Nat)):List (List Nat):=opt cb [k_base,dw b]++r
section
variable {wd : Int} {f : Nat} {x : Str} {cf cs st : Bool} {k : List Nat} {r : List (List Nat)}
theorem h_last (h1:k≠k_width) (h2:k≠k_fill) (h3:k≠k_side) (h4:k≠k_strict):(wLast wd f x cf cs st).head? ≠ some k:=hd_opt h1 (hd_opt h2 (hd_opt h3 (hd_opt h4 (fun z=>by cases z))))
theorem h_way {wy:Str} {cw:Bool} (h1:k≠k_way) (h2:r.head? ≠ some k):(wWay wy cw r).head? ≠ some k:=hd_opt h1 h2
theorem h_point {pt:Nat} {cp:Bool} (h1:k≠k_point) (h2:r.head? ≠ some k):(wPoint pt cp r).head? ≠ some k:=hd_opt h1 h2
theorem h_groups {z:Int} {m:Nat} (h1:k≠k_groups) (h2:r.head? ≠ some k):(wGroups z m r).head? ≠ some k:=hd_opt h1 h2
theorem h_sign {sn:Str} {cg:Bool} (h1:k≠k_sign) (h2:r.head? ≠ some k):(wSign sn cg r).head? ≠ some k:=hd_opt h1 h2
end
theorem sty_in {x:Str} (h:Style x):Lt x ∈ [Lt "minus", Lt "plus", Lt "blank", Lt "brackets", Lt "behind"]:=by
 rcases h with rfl | rfl | rfl | rfl | rfl <;> simp
theorem way_in {x:Str} (h:Way x):Lt x ∈ [Lt "down", Lt "up", Lt "cut", Lt "near", Lt "even"]:=by
 rcases h with rfl | rfl | rfl | rfl | rfl <;> simp
theorem map_tsV (l:List Str):l.map V.str=tsV (l.map Lt):=by
 unfold tsV;rw [List.map_map];exact List.map_congr_left fun z _=>by show V.str z=V.str (T (Lt z));rw [T_Lt]
def sp_read_number_form (K:W.Frag) (CW CN:Addr):Sp:=fun vs H Q _=>∃ (a:Addr) (fg pl b:Int) (sn:Str) (z:Int) (m pt:Nat) (wy:Str) (wd:Int) (f:Nat) (x:Str) (cb cg cp cw cf cs st:Bool),vs=[.ref a]∧NumS fg pl b sn z m pt wy wd f x∧(cb=false→b=10)∧(cg=false→sn = "minus")∧(cp=false→pt=46)∧(cw=false→wy = "near")∧(cf=false→f=32)∧(cs=false→x = "right") ∧
 Wr K CW H a (dw fg::dw pl::wBase b cb (wSign sn cg (wGroups z m (wPoint pt cp (wWay wy cw (wLast wd f x cf cs st)))))) ∧ ∀ o m' H',SBW a H H'→Wr K CW H' a []→FormAt K H' o CN wd f x st (nmore fg pl b sn z m' pt wy)→(0 < z→m'=m)→m' < 127→Q (.ref o) H'
theorem ok_read_number_form {f:Addr} {fd:FuncData} (F:Fun K "read_number_form" "read_number_form" s_read_number_form f fd) (B:Blt mg) {c_Words:Addr} {c_NumberForm:Addr} (cl_Words:Cls K c_Words) (m_NumberForm:mg "NumberForm" = some (.ref c_NumberForm)) (C_read_groups:Has P w K mg base "read_groups" 4 ["words"] (sp_read_groups K c_Words)) (C_read_last:Has P w K mg base "read_last" 4 ["words", "sides", "side"] (sp_read_last K c_Words)) (M_Words_take_number:HasM P w K mg base CX0 c_Words "take_number" 3 ["self", "least", "most"] (sp_Words_take_number K c_Words)) (I_NumberForm_init:HasI P w K mg base CX0 c_NumberForm 2 ["self", "figures", "places", "base", "sign", "size", "mark", "point", "way", "width", "fill", "side", "strict"] (sp_NumberForm___init__ K c_NumberForm)) (M_Words_has_clause:HasM P w K mg base CX0 c_Words "has_clause" 2 ["self", "word"] (sp_Words_has_clause K c_Words)) (M_Words_take_one_of:HasM P w K mg base CX0 c_Words "take_one_of" 2 ["self", "choices"] (sp_Words_take_one_of K c_Words)) (M_Words_take_sign:HasM P w K mg base CX0 c_Words "take_sign" 2 ["self"] (sp_Words_take_sign K c_Words)) {t_WAYS:Addr} {t_SIDES:Addr} {t_STYLES:Addr} (g_WAYS:mg "WAYS" = some (.ref t_WAYS)) (g_SIDES:mg "SIDES" = some (.ref t_SIDES)) (g_STYLES:mg "STYLES" = some (.ref t_STYLES))(cl:Cls K c_NumberForm) (na:NoAttrs K c_NumberForm (bns++nns)) (stk:KDs w K t_STYLES ["minus", "plus", "blank", "brackets", "behind"]) (hW:SqM K t_WAYS (tsV [Lt "down", Lt "up", Lt "cut", Lt "near", Lt "even"])) (hS:SqM K t_SIDES (tsV [Lt "left", Lt "right", Lt "middle"])):FnOk P w K mg base CX0 5 f fd ["words"] (sp_read_number_form K c_Words c_NumberForm):=by classical
 refine F.ok sc_read_number_form (fun vs H Q E h=>?_) (fun cdv A outer s H vs Q E hr h=>?_)
 ·obtain ⟨a,fg,pl,b,sn,z,m,pt,wy,wd,f,x,cb,cg,cp,cw,cf,cs,st,rfl,ok,i1,i2,i3,i4,i5,i6,W,q⟩:=h
  rfl
 obtain ⟨a,fg,pl,b,sn,z,m,pt,wy,wd,f,x,cb,cg,cp,cw,cf,cs,st,rfl,ok,i1,i2,i3,i4,i5,i6,W,q⟩:=h
 refine ⟨_,pss_cons (ps_set (i:=1) sc_read_number_form.nd rfl (Or.inl rfl) (pe_methH M_Words_take_number cl_Words pass0 hr (pv 0) (pa_cons (pe_int) (pa_cons (pe_int) (pa_nil)))))
  (pss_cons (ps_set (i:=2) sc_read_number_form.nd rfl (Or.inl rfl) (pe_methH M_Words_take_number cl_Words pass0 hr (pv 0) (pa_cons (pe_int) (pa_cons (pe_int) (pa_nil)))))
  (pss_cons (ps_set (i:=3) sc_read_number_form.nd rfl (Or.inl rfl) (pe_ifExp (pt_val (pe_methH M_Words_has_clause cl_Words pass0 hr (pv 0) (pa_cons (pe_strT (l:=[98,97,115,101]) (by decide +kernel)) (pa_nil)))) (pe_methH M_Words_take_number cl_Words pass0 hr (pv 0) (pa_cons (pe_int) (pa_cons (pe_int) (pa_nil)))) (pe_int)))
  (pss_cons (ps_set (i:=4) sc_read_number_form.nd rfl (Or.inl rfl) (pe_ifExp (pt_val (pe_methH M_Words_has_clause cl_Words pass0 hr (pv 0) (pa_cons (pe_strT (l:=[115,105,103,110]) (by decide +kernel)) (pa_nil)))) (pe_methH M_Words_take_one_of cl_Words pass0 hr (pv 0) (pa_cons (pe_callTy (call_listKD rfl) rfl B.z_list bo_list (pa_cons (pe_glob rfl g_STYLES (v:=.ref t_STYLES) rfl) (pa_nil))) (pa_nil))) (pe_str)))
  (pss_cons (ps_set (i:=5) sc_read_number_form.nd rfl (Or.inl rfl) (pe_callH C_read_groups hr rfl (pa_cons (pv 0) (pa_nil))))
  (pss_cons (ps_set (i:=6) sc_read_number_form.nd rfl (Or.inl rfl) (pe_ifExp (pt_val (pe_methH M_Words_has_clause cl_Words pass0 hr (pv 0) (pa_cons (pe_strT (l:=[112,111,105,110,116]) (by decide +kernel)) (pa_nil)))) (pe_methH0 M_Words_take_sign cl_Words pass0 hr (pv 0)) (pe_strT (l:=[46]) (by decide +kernel))))
  (pss_cons (ps_set (i:=7) sc_read_number_form.nd rfl (Or.inl rfl) (pe_ifExp (pt_val (pe_methH M_Words_has_clause cl_Words pass0 hr (pv 0) (pa_cons (pe_strT (l:=[119,97,121]) (by decide +kernel)) (pa_nil)))) (pe_methH M_Words_take_one_of cl_Words pass0 hr (pv 0) (pa_cons (pe_glob rfl g_WAYS (v:=.ref t_WAYS) rfl) (pa_nil))) (pe_str)))
  (pss_cons (ps_set (i:=8) sc_read_number_form.nd rfl (Or.inl rfl) (pe_callH C_read_last hr rfl (pa_cons (pv 0) (pa_cons (pe_op op_catT (pe_glob rfl g_SIDES (v:=.ref t_SIDES) rfl) (pe_tup (pa_cons (pe_str) (pa_nil)))) (pa_cons (pe_str) (pa_nil))))))
  (pss_one (ps_ret (pe_makeH I_NumberForm_init pass0 hr rfl m_NumberForm (pa_cons (pv 1) (pa_cons (pv 2) (pa_cons (pv 3) (pa_cons (pv 4) (pa_cons (pe_ix ix_tup (pv 5) (pe_int) (fun _ _=>rfl)) (pa_cons (pe_ix ix_tup (pv 5) (pe_int) (fun _ _=>rfl)) (pa_cons (pv 6) (pa_cons (pv 7) (pa_cons (pe_ix ix_tup (pv 8) (pe_int) (fun _ _=>rfl)) (pa_cons (pe_ix ix_tup (pv 8) (pe_int) (fun _ _=>rfl)) (pa_cons (pe_ix ix_tup (pv 8) (pe_int) (fun _ _=>rfl)) (pa_cons (pe_ix ix_tup (pv 8) (pe_int) (fun _ _=>rfl)) (pa_nil) se_Subscript) se_Subscript) se_Subscript) se_Subscript) se_Name) se_Name) se_Subscript) se_Subscript) se_Name) se_Name) se_Name) se_Name))))))))))),?_⟩
 walk_at "st"
 have o1:=ok.fg1;have o2:=ok.fg2;have o3:=ok.pl1;have o4:=ok.pl2;have o5:=ok.b1;have o6:=ok.b2;have o7:=ok.z1;have o8:=ok.z2;have o9:=ok.wd1;have o10:=ok.wd2
 refine r_seqJ (fun σ' H'=>σ'=[some (.ref a),some (.int fg),none,none,none,none,none,none,none]∧SBW a H H'∧Wr K c_Words H' a (dw pl::wBase b cb (wSign sn cg (wGroups z m (wPoint pt cp (wWay wy cw (wLast wd f x cf cs st))))))) (fun σ1 H1 h=>?_) (fun R hR=>?_)
 ·obtain ⟨rfl,s1,W1⟩:=h
  clear W
  refine r_seqJ (fun σ' H'=>σ'=[some (.ref a),some (.int fg),some (.int pl),none,none,none,none,none,none]∧SBW a H H'∧Wr K c_Words H' a (wBase b cb (wSign sn cg (wGroups z m (wPoint pt cp (wWay wy cw (wLast wd f x cf cs st))))))) (fun σ2 H2 h=>?_) (fun R hR=>?_)
  ·obtain ⟨rfl,s2,W2⟩:=h
   clear W1 s1
   refine r_seqJ (fun σ' H'=>σ'=[some (.ref a),some (.int fg),some (.int pl),some (.int b),none,none,none,none,none]∧SBW a H H'∧Wr K c_Words H' a (wSign sn cg (wGroups z m (wPoint pt cp (wWay wy cw (wLast wd f x cf cs st)))))) (fun σ3 H3 h=>?_) (fun R hR=>?_)
   ·obtain ⟨rfl,s3,W3⟩:=h
    clear W2 s2
    refine r_seqJ (fun σ' H'=>σ'=[some (.ref a),some (.int fg),some (.int pl),some (.int b),some (.str sn),none,none,none,none]∧SBW a H H'∧Wr K c_Words H' a (wGroups z m (wPoint pt cp (wWay wy cw (wLast wd f x cf cs st))))) (fun σ4 H4 h=>?_) (fun R hR=>?_)
    ·obtain ⟨rfl,s4,W4⟩:=h
     clear W3 s3
     refine r_seqJ (fun σ' H'=>∃ g m',σ'=[some (.ref a),some (.int fg),some (.int pl),some (.int b),some (.str sn),some (.ref g),none,none,none]∧SBW a H H'∧Wr K c_Words H' a (wPoint pt cp (wWay wy cw (wLast wd f x cf cs st)))∧H' g=some (.tup [.int z,.str (T [m'])])∧(0 < z→m'=m)∧(m'=m∨m'=44)) (fun σ5 H5 h=>?_) (fun R hR=>?_)
     ·obtain ⟨g,m',rfl,s5,W5,e5,hz,hm⟩:=h
      clear W4 s4
      refine r_seqJ (fun σ' H'=>σ'=[some (.ref a),some (.int fg),some (.int pl),some (.int b),some (.str sn),some (.ref g),some (.str (T [pt])),none,none]∧SBW a H H'∧Wr K c_Words H' a (wWay wy cw (wLast wd f x cf cs st))∧H' g=some (.tup [.int z,.str (T [m'])])) (fun σ6 H6 h=>?_) (fun R hR=>?_)
      ·obtain ⟨rfl,s6,W6,e6⟩:=h
       clear W5 s5 e5
       refine r_seqJ (fun σ' H'=>σ'=[some (.ref a),some (.int fg),some (.int pl),some (.int b),some (.str sn),some (.ref g),some (.str (T [pt])),some (.str wy),none]∧SBW a H H'∧Wr K c_Words H' a (wLast wd f x cf cs st)∧H' g=some (.tup [.int z,.str (T [m'])])) (fun σ7 H7 h=>?_) (fun R hR=>?_)
       ·obtain ⟨rfl,s7,W7,e7⟩:=h
        clear W6 s6 e6
        walk_at "rd"
        rename_i p8 H8 g8 e8
        refine ⟨t_SIDES,p8,_,_,rfl,rfl,hS _,SqT.of e8,(by intro h;cases h),small (by show 3+1≤1000;decide),(fun h=>by cases h),fun _ p9 n9=>?_⟩
        have g9:Same H8 (upd H8 p9 (.tup (tsV [Lt "left", Lt "right", Lt "middle"]++[.str "inside"]))):=same_upd (Same.refl _) n9
        have e9:(upd H8 p9 (.tup (tsV [Lt "left", Lt "right", Lt "middle"]++[.str "inside"]))) p9=some (.tup (tsV [Lt "left", Lt "right", Lt "middle", Lt "inside"])):=by
         rw [upd_same]
         show some (HO.tup [.str (T (Lt "left")),.str (T (Lt "right")),.str (T (Lt "middle")),.str "inside"])=some (HO.tup [.str (T (Lt "left")),.str (T (Lt "right")),.str (T (Lt "middle")),.str (T (Lt "inside"))])
         rw [T_Lt "inside"]
        generalize upd H8 p9 (.tup (tsV [Lt "left", Lt "right", Lt "middle"]++[.str "inside"]))=H9 at *
        have g79:=g8.trans g9
        walk_at "rd"
        refine ⟨a,p9,_, "right", x,wd,f,cf,cs,st,rfl,SqT.of e9,o9,o10,side_in ok.x,i5,i6,W7.same g79,fun p H10 s10 W10 e10=>?_⟩
        have e7':=s10.tup (W7.same g79) (g79.at e7)
        have mb:m' < 127:=by
         rcases hm with h | h
         ·rw [h];exact ok.m
         ·omega
        walk_at "rd"
        intro o dx no nd ne
        refine ⟨o,dx,fg,pl,b,sn,z,m',pt,wy,wd,f,x,st,rfl,upd_same,?_⟩
        have F0:FormAt K (upd (upd (upd H10 dx (.own o)) o (.ins c_NumberForm dx [])) o (.ins c_NumberForm dx (bfs wd f x st (nmore fg pl b sn z m' pt wy)))) o c_NumberForm wd f x st (nmore fg pl b sn z m' pt wy):=⟨⟨dx,upd_same⟩,cl,na⟩
        have g11:Same H10 (upd (upd (upd H10 dx (.own o)) o (.ins c_NumberForm dx [])) o (.ins c_NumberForm dx (bfs wd f x st (nmore fg pl b sn z m' pt wy)))):=same_upd (same_upd (same_upd (Same.refl _) nd) no) no
        generalize upd (upd (upd H10 dx (.own o)) o (.ins c_NumberForm dx [])) o (.ins c_NumberForm dx (bfs wd f x st (nmore fg pl b sn z m' pt wy)))=H11 at F0 g11 ⊢
        exact ⟨rfl,q o m' H11 (((s7.then g79).trans s10).then g11) (W10.same g11) F0 hz mb⟩
       ·walk_at "rd"
        refine c_has W6 (h_last (by decide) (by decide) (by decide) (by decide)) (fun hc H7 s7 W7=>?_) (fun hc W7=>?_)
        ·walk_at "rd"
         refine c_tone W7 (.inr (hW _)) (way_in ok.wy) fun H8 s8 W8=>?_
         rw [T_Lt]
         walk_at "rd"
         exact hR _ _ ⟨rfl,s6.trans (s7.trans s8),W8,s8.tup W7 (s7.tup W6 e6)⟩
        ·walk_at "rd"
         have:=i4 hc
         subst this
         exact hR _ _ ⟨rfl,s6,W7,e6⟩
      ·walk_at "rd"
       refine c_has W5 (h_way (by decide) (h_last (by decide) (by decide) (by decide) (by decide))) (fun hc H6 s6 W6=>?_) (fun hc W6=>?_)
       ·walk_at "rd"
        refine c_tsign W6 fun H7 s7 W7=>?_
        walk_at "rd"
        exact hR _ _ ⟨rfl,s5.trans (s6.trans s7),W7,s7.tup W6 (s6.tup W5 e5)⟩
       ·walk_at "rd"
        have:=i3 hc
        subst this
        exact hR _ _ ⟨rfl,s5,W6,e5⟩
     ·walk_at "rd"
      refine ⟨a,z,m,_,rfl,o7,o8,W4,h_point (by decide) (h_way (by decide) (h_last (by decide) (by decide) (by decide) (by decide))),fun p m' H5 s5 W5 e5 hz hm=>?_⟩
      walk_at "rd"
      exact hR _ _ ⟨p,m',rfl,s4.trans s5,W5,e5,hz,hm⟩
    ·walk_at "rd"
     refine c_has W3 (h_groups (by decide) (h_point (by decide) (h_way (by decide) (h_last (by decide) (by decide) (by decide) (by decide))))) (fun hc H4 s4 W4=>?_) (fun hc W4=>?_)
     ·walk_at "rd"
      refine r_listKD stk fun l5 H5 g5 n5 e5=>?_
      rw [map_tsV] at e5
      walk_at "rd"
      refine c_tone (W4.same g5) (.inl (SqL.of e5)) (sty_in ok.sn) fun H6 s6 W6=>?_
      rw [T_Lt]
      walk_at "rd"
      exact hR _ _ ⟨rfl,s3.trans (((s4.then g5)).trans s6),W6⟩
     ·walk_at "rd"
      have:=i2 hc
      subst this
      exact hR _ _ ⟨rfl,s3,W4⟩
   ·walk_at "rd"
    refine c_has W2 (h_sign (by decide) (h_groups (by decide) (h_point (by decide) (h_way (by decide) (h_last (by decide) (by decide) (by decide) (by decide)))))) (fun hc H3 s3 W3=>?_) (fun hc W3=>?_)
    ·walk_at "rd"
     refine c_tnum W3 o5 o6 (by omega) (by omega) fun H4 s4 W4=>?_
     walk_at "rd"
     exact hR _ _ ⟨rfl,s2.trans (s3.trans s4),W4⟩
    ·walk_at "rd"
     have:=i1 hc
     subst this
     exact hR _ _ ⟨rfl,s2,W3⟩
  ·walk_at "rd"
   refine c_tnum W1 o3 o4 o3 (by omega) fun H2 s2 W2=>?_
   walk_at "rd"
   exact hR _ _ ⟨rfl,s1.trans s2,W2⟩
 ·walk_at "rd"
  refine c_tnum W o1 o2 (by omega) (by omega) fun H1 s1 W1=>?_
  walk_at "rd"
  exact hR _ _ ⟨rfl,s1,W1⟩
def wWord (w:List Nat) (cb:Bool) (lo hi wd:Int) (f:Nat) (x:Str) (cf cs st:Bool):List (List Nat):=k_word::w::dw lo::dw hi::(opt cb [k_blank]++wLast wd f x cf cs st)
def wChoice (ns:List (List Nat)) (wd:Int) (f:Nat) (x:Str) (cf cs st:Bool):List (List Nat):=k_choice::dw ns.length::(ns++wLast wd f x cf cs st)
def wAll (fg pl b:Int) (sn:Str) (z:Int) (m pt:Nat) (wy:Str) (wd:Int) (f:Nat) (x:Str) (cb cg cp cw cf cs st:Bool):List (List Nat):=k_number::dw fg::dw pl::wBase b cb (wSign sn cg (wGroups z m (wPoint pt cp (wWay wy cw (wLast wd f x cf cs st)))))
def sp_read_words (K:W.Frag) (CW CN CF CC:Addr):Sp:=fun vs H Q _=>(∃ (a:Addr) (fg pl b:Int) (sn:Str) (z:Int) (m pt:Nat) (wy:Str) (wd:Int) (f:Nat) (x:Str) (cb cg cp cw cf cs st:Bool),vs=[.ref a]∧NumS fg pl b sn z m pt wy wd f x∧(cb=false→b=10)∧(cg=false→sn = "minus")∧(cp=false→pt=46)∧(cw=false→wy = "near")∧(cf=false→f=32)∧(cs=false→x = "right") ∧
 Wr K CW H a (wAll fg pl b sn z m pt wy wd f x cb cg cp cw cf cs st) ∧ ∀ o m' H',SBW a H H'→Wr K CW H' a []→FormAt K H' o CN wd f x st (nmore fg pl b sn z m' pt wy)→(0 < z→m'=m)→m' < 127→Q (.ref o) H')∨(∃ (a:Addr) (w sg:List Nat) (cb:Bool) (lo hi wd:Int) (f:Nat) (x:Str) (cf cs st:Bool),vs=[.ref a]∧SgW w sg∧WdS (sgB cb sg) lo hi wd f x∧(cf=false→f=32)∧(cs=false→x = "left") ∧
 Wr K CW H a (wWord w cb lo hi wd f x cf cs st) ∧ ∀ o H',SBW a H H'→Wr K CW H' a []→FormAt K H' o CF wd f x st (wmore (sgB cb sg) lo hi)→Q (.ref o) H') ∨
 (∃ (a:Addr) (ns:List (List Nat)) (wd:Int) (f:Nat) (x:Str) (cf cs st:Bool),vs=[.ref a]∧ChS ns wd f x∧(cf=false→f=32)∧(cs=false→x = "left") ∧
 Wr K CW H a (wChoice ns wd f x cf cs st) ∧ ∀ o L H',SBW a H H'→Wr K CW H' a []→FormAt K H' o CC wd f x st (cmore L)→H L=none→H' L=some (.lst (tsV ns))→Q (.ref o) H')
theorem ok_read_words {f : Addr} {fd : FuncData} (F : Fun K "read_words" "read_words" s_read_words f fd) (B : Blt mg) {c_Words : Addr} {c_NumberForm : Addr} {c_WordForm : Addr} {c_ChoiceForm : Addr} (cl_Words : Cls K c_Words) (C_read_choice_form : Has P w K mg base "read_choice_form" 5 ["words"] (sp_read_choice_form K c_Words c_ChoiceForm)) (C_read_number_form : Has P w K mg base "read_number_form" 5 ["words"] (sp_read_number_form K c_Words c_NumberForm)) (C_read_word_form : Has P w K mg base "read_word_form" 5 ["words"] (sp_read_word_form K c_Words c_WordForm)) (M_Words_take_one_of : HasM P w K mg base CX0 c_Words "take_one_of" 2 ["self", "choices"] (sp_Words_take_one_of K c_Words)) : FnOk P w K mg base CX0 6 f fd ["words"] (sp_read_words K c_Words c_NumberForm c_WordForm c_ChoiceForm) := by classical
  refine F.ok sc_read_words (fun vs H Q E h => ?_) (fun cdv A outer s H vs Q E hr h => ?_)
  · obtain ⟨a, fg, pl, b, sn, z, m, pt, wy, wd, f, x, cb, cg, cp, cw, cf, cs, st, rfl, ok, i1, i2, i3, i4, i5, i6, W, q⟩ | ⟨a, w, sg, cb, lo, hi, wd, f, x, cf, cs, st, rfl, hw, ok, i1, i2, W, q⟩ | ⟨a, ns, wd, f, x, cf, cs, st, rfl, ok, i1, i2, W, q⟩ := h
    all_goals rfl
  refine ⟨_, pss_cons (ps_set (i := 1) sc_read_words.nd rfl (Or.inl rfl) (pe_methH M_Words_take_one_of cl_Words pass0 hr (pv 0) (pa_cons (pe_tup (pa_cons (pe_strT (l := [110, 117, 109, 98, 101, 114]) (by decide +kernel)) (pa_cons (pe_strT (l := [119, 111, 114, 100]) (by decide +kernel)) (pa_cons (pe_strT (l := [99, 104, 111, 105, 99, 101]) (by decide +kernel)) (pa_nil))))) (pa_nil))))
    (pss_cons (ps_if (pt_cmpR op_eq (pv 1) (pe_strT (l := [110, 117, 109, 98, 101, 114]) (by decide +kernel)) (nomark _)) (pss_one (ps_ret (pe_callH C_read_number_form hr rfl (pa_cons (pv 0) (pa_nil))))) (pss_nil))
    (pss_cons (ps_if (pt_cmpR op_eq (pv 1) (pe_strT (l := [119, 111, 114, 100]) (by decide +kernel)) (nomark _)) (pss_one (ps_ret (pe_callH C_read_word_form hr rfl (pa_cons (pv 0) (pa_nil))))) (pss_nil))
    (pss_one (ps_ret (pe_callH C_read_choice_form hr rfl (pa_cons (pv 0) (pa_nil))))))), ?_⟩
  obtain ⟨a, fg, pl, b, sn, z, m, pt, wy, wd, f, x, cb, cg, cp, cw, cf, cs, st, rfl, ok, i1, i2, i3, i4, i5, i6, W, q⟩ | ⟨a, w, sg, cb, lo, hi, wd, f, x, cf, cs, st, rfl, hw, ok, i1, i2, W, q⟩ | ⟨a, ns, wd, f, x, cf, cs, st, rfl, ok, i1, i2, W, q⟩ := h
  all_goals walk_at "st"
  · walk_at "rd"
    rename_i p1 H1 g1 e1
    refine c_tone (ts := [[110, 117, 109, 98, 101, 114], [119, 111, 114, 100], [99, 104, 111, 105, 99, 101]]) (W.same g1) (.inr (SqT.of e1)) (List.mem_cons_self ..) fun H2 s2 W2 => ?_
    walk_at "rd"
    refine ⟨a, fg, pl, b, sn, z, m, pt, wy, wd, f, x, cb, cg, cp, cw, cf, cs, st, rfl, ok, i1, i2, i3, i4, i5, i6, W2, fun o m' H3 s3 W3 F3 hz hm => ?_⟩
    exact q _ _ _ (((SBW.of g1).trans s2).trans s3) W3 F3 hz hm
  · walk_at "rd"
    rename_i p1 H1 g1 e1
    refine c_tone (ts := [[110, 117, 109, 98, 101, 114], [119, 111, 114, 100], [99, 104, 111, 105, 99, 101]]) (W.same g1) (.inr (SqT.of e1)) (List.mem_cons_of_mem _ (List.mem_cons_self ..)) fun H2 s2 W2 => ?_
    walk_at "rd"
    · rename_i hc; exact absurd hc (by decide)
    refine ⟨a, w, sg, cb, lo, hi, wd, f, x, cf, cs, st, rfl, hw, ok, i1, i2, W2, fun o H3 s3 W3 F3 => ?_⟩
    exact q _ _ (((SBW.of g1).trans s2).trans s3) W3 F3
  · walk_at "rd"
    rename_i p1 H1 g1 e1
    refine c_tone (ts := [[110, 117, 109, 98, 101, 114], [119, 111, 114, 100], [99, 104, 111, 105, 99, 101]]) (W.same g1) (.inr (SqT.of e1)) (List.mem_cons_of_mem _ (List.mem_cons_of_mem _ (List.mem_cons_self ..))) fun H2 s2 W2 => ?_
    walk_at "rd"
    · rename_i hc; exact absurd hc (by decide)
    · rename_i hc; exact absurd hc (by decide)
    refine ⟨a, ns, wd, f, x, cf, cs, st, rfl, ok, i1, i2, W2, fun o L H3 s3 W3 F3 n3 e3 => ?_⟩
    have s02 := (SBW.of g1).trans s2
    refine q _ _ _ (s02.trans s3) W3 F3 ?_ e3
    cases hL : H L with
    | none => rfl
    | some u =>
      by_cases z : L = a
      · subst z
        obtain ⟨_, _, _, _, ea, _⟩ := W2
        rw [ea] at n3; cases n3
      · rw [s02.oth L u z hL] at n3; cases n3
def Sgn (c:Nat):Prop:=c=32∨c ∈ Lt allS
def sp_is_text (K:W.Frag):Sp:=fun vs H Q _=>∃ t:List Nat,vs=[.str (T t)]∧(∀ c ∈ t,Sgn c)∧t.length≤1000 ∧ ∀ H',Same H H'→Q (.bl true) H'
theorem r_inStr {c:Nat} {z:Str} {H:Hp} {Q:VK} (q:Q (.bl (decide (c ∈ Lt z))) H):rInS (.str (T [c])) (.str z) H Q:=by
 have e:z=T (Lt z):=(T_Lt z).symm
 rw [e,Lt_T] at *
 exact r_inTx q
theorem ok_is_text {f:Addr} {fd:FuncData} (F:Fun K "is_text" "is_text" s_is_text f fd) (B:Blt mg) {t_SIGN_SETS:Addr} (g_SIGN_SETS:mg "SIGN_SETS" = some (.ref t_SIGN_SETS))(ss:SgSets w K t_SIGN_SETS):FnOk P w K mg base CX0 1 f fd ["thing"] (sp_is_text K):=by classical
 refine F.ok sc_is_text (fun vs H Q E h=>?_) (fun cdv A outer s H vs Q E hr h=>?_)
 ·obtain ⟨t,rfl,ht,hl,q⟩:=h
  rfl
 obtain ⟨t,rfl,ht,hl,q⟩:=h
 refine ⟨_,pss_cons (ps_if (pt_not (pt_val (pe_callBH call_isi B.z_isinstance rfl bo_isinstance (pa_cons (pv 0) (pa_cons (pe_bltn rfl B.z_str bo_str (v:=.ty "str") rfl) (pa_nil)))))) (pss_one (ps_ret (pe_bl))) (pss_nil))
  (pss_one (ps_ret (pe_callBH (call_allB rfl) B.z_all rfl bo_all (pa_cons (pe_comp (cl:=[]) (fr:=[]) (is:=[]) rfl rfl trivial rfl trivial (by decide) (by decide +kernel) rfl (by decide +kernel) rfl (pi_strT (pv 0)) (fun _ _ _ _=>pifs_nil) (fun _ _ _ _=>pe_or (pe_cmpR op_eq (pv 0) (pe_strT (l:=[32]) (by decide +kernel)) (nomark _)) (pe_one (pe_cmpR op_inS (pv 0) (pe_ix (ix_kdtK (w:=w) (K:=K) rfl rfl) (pe_glob rfl g_SIGN_SETS (v:=.ref t_SIGN_SETS) rfl) (pe_str) (fun _ _=>rfl)) (by with_unfolding_all rfl))))) (pa_nil))))),?_⟩
 walk_at "st"
 walk_at "rd"
 refine r_kCompS (small hl) (fun i ys H'=>H'=H∧ys=(List.replicate i true).map V.bl) ⟨rfl,rfl⟩ (fun i ys H' _ h=>by rw [h.2];simp) ?_ ?_
 ·rintro i c ys H' hc hi ⟨rfl,rfl⟩
  have sc:=ht c (List.mem_of_getElem? hc)
  walk_at "rd"
  ·refine nxC hi ⟨rfl,by rw [List.replicate_succ',List.map_append];rfl⟩
  ·rename_i hne
   refine r_ixDt (ss.get "all" allS (.inr (.inr (.inr ⟨rfl,rfl⟩)))) (r_inStr ?_)
   have mem:c ∈ Lt allS:=by
    rcases sc with h | h
    ·exact absurd (by rw [h]) hne
    ·exact h
   rw [decide_eq_true mem]
   refine nxC hi ⟨rfl,by rw [List.replicate_succ',List.map_append];rfl⟩
 ·rintro ys H' ⟨rfl,rfl⟩ p1 H1 g1 e1
  walk_at "rd"
  rw [show (List.replicate t.length true).all id=true from by simp]
  exact q _ g1
def sp_read_form (K:W.Frag) (CN CF CC:Addr):Sp:=fun vs H Q _=>(∃ (fg pl b:Int) (sn:Str) (z:Int) (m pt:Nat) (wy:Str) (wd:Int) (f:Nat) (x:Str) (cb cg cp cw cf cs st:Bool),vs=[.str (T (jn [32] (wAll fg pl b sn z m pt wy wd f x cb cg cp cw cf cs st)))]∧NumS fg pl b sn z m pt wy wd f x∧(cb=false→b=10)∧(cg=false→sn = "minus")∧(cp=false→pt=46)∧(cw=false→wy = "near")∧(cf=false→f=32)∧(cs=false→x = "right") ∧
 (∀ t ∈ wAll fg pl b sn z m pt wy wd f x cb cg cp cw cf cs st,32 ∉ t)∧(∀ c ∈ jn [32] (wAll fg pl b sn z m pt wy wd f x cb cg cp cw cf cs st),Sgn c)∧(jn [32] (wAll fg pl b sn z m pt wy wd f x cb cg cp cw cf cs st)).length≤1000∧(wAll fg pl b sn z m pt wy wd f x cb cg cp cw cf cs st).length≤100∧(∀ m',m' < 127→(st && decide (wd < ((ncore pl b sn z m' pt 0).length:Int)))=false) ∧
 ∀ o m' H',Same H H'→FormAt K H' o CN wd f x st (nmore fg pl b sn z m' pt wy)→(0 < z→m'=m)→m' < 127→Q (.ref o) H') ∨
 (∃ (w sg:List Nat) (cb:Bool) (lo hi wd:Int) (f:Nat) (x:Str) (cf cs st:Bool),vs=[.str (T (jn [32] (wWord w cb lo hi wd f x cf cs st)))]∧SgW w sg∧WdS (sgB cb sg) lo hi wd f x∧(cf=false→f=32)∧(cs=false→x = "left")∧(∀ t ∈ wWord w cb lo hi wd f x cf cs st,32 ∉ t)∧(∀ c ∈ jn [32] (wWord w cb lo hi wd f x cf cs st),Sgn c)∧(jn [32] (wWord w cb lo hi wd f x cf cs st)).length≤1000∧(wWord w cb lo hi wd f x cf cs st).length≤100∧(st=true→lo≤wd) ∧
 ∀ o H',Same H H'→FormAt K H' o CF wd f x st (wmore (sgB cb sg) lo hi)→Q (.ref o) H') ∨
 (∃ (ns:List (List Nat)) (wd:Int) (f:Nat) (x:Str) (cf cs st:Bool),vs=[.str (T (jn [32] (wChoice ns wd f x cf cs st)))]∧ChS ns wd f x∧(cf=false→f=32)∧(cs=false→x = "left")∧(∀ t ∈ wChoice ns wd f x cf cs st,32 ∉ t)∧(∀ c ∈ jn [32] (wChoice ns wd f x cf cs st),Sgn c)∧(jn [32] (wChoice ns wd f x cf cs st)).length≤1000∧(wChoice ns wd f x cf cs st).length≤100∧(st=true → ∃ t ∈ ns,(t.length:Int)≤wd) ∧
 ∀ o L H',Same H H'→FormAt K H' o CC wd f x st (cmore L)→H L=none→H' L=some (.lst (tsV ns))→Q (.ref o) H')
local macro_rules | `(tactic| walk_at "rdc")=>`(tactic| first | (with_reducible refine r_bmL ?_) | (with_reducible refine r_tyS ?_) | fail "k52h stops")
theorem ok_read_form {f:Addr} {fd:FuncData} (F:Fun K "read_form" "read_form" s_read_form f fd) (B:Blt mg) {c_Words:Addr} {c_NumberForm:Addr} {c_WordForm:Addr} {c_ChoiceForm:Addr} (cl_NumberForm:Cls K c_NumberForm) (cl_WordForm:Cls K c_WordForm) (cl_ChoiceForm:Cls K c_ChoiceForm) (m_Words:mg "Words" = some (.ref c_Words)) (C_read_words:Has P w K mg base "read_words" 6 ["words"] (sp_read_words K c_Words c_NumberForm c_WordForm c_ChoiceForm)) (C_is_text:Has P w K mg base "is_text" 1 ["thing"] (sp_is_text K)) (I_Words_init:HasI P w K mg base CX0 c_Words 1 ["self", "words"] (sp_Words___init__ K c_Words)) (M_NumberForm_puts_some:HasM P w K mg base CX0 c_NumberForm "puts_some" 6 ["self"] (sp_Form_puts_some K c_NumberForm c_WordForm c_ChoiceForm)) (M_WordForm_puts_some:HasM P w K mg base CX0 c_WordForm "puts_some" 6 ["self"] (sp_Form_puts_some K c_NumberForm c_WordForm c_ChoiceForm)) (M_ChoiceForm_puts_some:HasM P w K mg base CX0 c_ChoiceForm "puts_some" 6 ["self"] (sp_Form_puts_some K c_NumberForm c_WordForm c_ChoiceForm))(clW:Cls K c_Words) (naW:NoAttrs K c_Words ["words", "at"]):FnOk P w K mg base CX0 7 f fd ["text"] (sp_read_form K c_NumberForm c_WordForm c_ChoiceForm):=by classical
 refine F.ok sc_read_form (fun vs H Q E h=>?_) (fun cdv A outer s H vs Q E hr h=>?_)
 ·obtain ⟨fg,pl,b,sn,z,m,pt,wy,wd,f,x,cb,cg,cp,cw,cf,cs,st,rfl,ok,i1,i2,i3,i4,i5,i6,fr,sgn,l1,l2,hs,q⟩ | ⟨w,sg,cb,lo,hi,wd,f,x,cf,cs,st,rfl,hw,ok,i1,i2,fr,sgn,l1,l2,hs,q⟩ | ⟨ns,wd,f,x,cf,cs,st,rfl,ok,i1,i2,fr,sgn,l1,l2,hs,q⟩:=h
  all_goals rfl
 refine ⟨_,pss_cons (ps_if (pt_not (pt_val (pe_callH C_is_text hr rfl (pa_cons (pv 0) (pa_nil))))) (pss_one (ps_never)) (pss_nil))
  (pss_cons (ps_set (i:=1) sc_read_form.nd rfl (Or.inl rfl) (pe_makeH I_Words_init pass0 hr rfl m_Words (pa_cons (pe_bm PySem.F.plainAttrs_str PySem.F.slot_str_split PySem.F.type_str_split mt_splitT (pv 0) (pa_cons (pe_strT (l:=[32]) (by decide +kernel)) (pa_nil))) (pa_nil))))
  (pss_cons (ps_set (i:=2) sc_read_form.nd rfl (Or.inl rfl) (pe_callH C_read_words hr rfl (pa_cons (pv 1) (pa_nil))))
  (pss_cons (ps_if (pt_not (pt_val (pe_orE (pe_methH0 M_NumberForm_puts_some cl_NumberForm pass0 hr (pv 2)) (pe_orE (pe_methH0 M_WordForm_puts_some cl_WordForm pass0 hr (pv 2)) (pe_methH0 M_ChoiceForm_puts_some cl_ChoiceForm pass0 hr (pv 2)))))) (pss_one (ps_never)) (pss_nil))
  (pss_cons (ps_if (pt_cmpR op_lt (pe_fld (pv 1) rfl) (pe_callBH call_lenN B.z_len rfl bo_len (pa_cons (pe_fld (pv 1) rfl) (pa_nil))) (nomark _)) (pss_one (ps_never)) (pss_nil))
  (pss_one (ps_ret (pv 2))))))),?_⟩
 obtain ⟨fg,pl,b,sn,z,m,pt,wy,wd,f,x,cb,cg,cp,cw,cf,cs,st,rfl,ok,i1,i2,i3,i4,i5,i6,fr,sgn,l1,l2,hs,q⟩ | ⟨w,sg,cb,lo,hi,wd,f,x,cf,cs,st,rfl,hw,ok,i1,i2,fr,sgn,l1,l2,hs,q⟩ | ⟨ns,wd,f,x,cf,cs,st,rfl,ok,i1,i2,fr,sgn,l1,l2,hs,q⟩:=h
 all_goals walk_at "st"
 ·have ne0:wAll fg pl b sn z m pt wy wd f x cb cg cp cw cf cs st≠[]:=by intro h;cases h
  walk_at "rd"
  refine ⟨_,rfl,sgn,l1,fun H1 g1=>?_⟩
  walk_at "rd"
  refine r_splitT ne0 fr (by omega) (by omega) fun l H2 g2 n2 e2=>?_
  walk_at "rd"
  intro a dx no nd ne
  refine ⟨a,dx,l,rfl,upd_same,rfl,?_⟩
  have na2:l≠a:=ne_of_none e2 no
  have nd2:l≠dx:=ne_of_none e2 nd
  have W:Wr K c_Words (upd (upd (upd H2 dx (.own a)) a (.ins c_Words dx [])) a (.ins c_Words dx (wfs l 0))) a (wAll fg pl b sn z m pt wy wd f x cb cg cp cw cf cs st):=
   ⟨dx,l,_,0,upd_same,(by rw [upd_ne na2,upd_ne na2,upd_ne nd2];exact e2),Nat.zero_le _,rfl,l2⟩
  have g3:Same H2 (upd (upd (upd H2 dx (.own a)) a (.ins c_Words dx [])) a (.ins c_Words dx (wfs l 0))):=same_upd (same_upd (same_upd (Same.refl _) nd) no) no
  have nn2 : ∀ c u,H c=some u→c≠a:=fun c u e z=>by subst z;have:=g2.at (g1.at e);rw [no] at this;cases this
  generalize upd (upd (upd H2 dx (.own a)) a (.ins c_Words dx [])) a (.ins c_Words dx (wfs l 0))=H3 at W g3 ⊢
  walk_at "rd"
  refine .inl ⟨a,fg,pl,b,sn,z,m,pt,wy,wd,f,x,cb,cg,cp,cw,cf,cs,st,rfl,ok,i1,i2,i3,i4,i5,i6,W,fun o m' H4 s4 W4 F4 hz hm=>?_⟩
  have g4:Same H H4:=fun c u e=>s4.oth c u (nn2 c u e) (g3.at (g2.at (g1.at e)))
  have ok':NumS fg pl b sn z m' pt wy wd f x:={ ok with m:=hm }
  walk_at "rd"
  refine r_orL ?_
  walk_at "rd"
  refine .inl ⟨o,fg,pl,b,sn,z,m',pt,wy,wd,f,x,st,rfl,F4,ok',hs m' hm,fun H5 g5=>?_⟩
  obtain ⟨dx5,L5,ws5,n5,e5,hl5,hn5,hd5,hz5⟩:=W4.same g5
  have nn:n5=ws5.length:=by
   rcases Nat.lt_or_ge n5 ws5.length with q' | q'
   ·rw [List.drop_eq_getElem_cons q'] at hd5;cases hd5
   ·omega
  have fA:FldAt K H5 a "at" (.int n5):=⟨c_Words,dx5,_,e5,clW,naW.at (by decide +kernel),wf_at⟩
  have fW:FldAt K H5 a "words" (.ref L5):=⟨c_Words,dx5,_,e5,clW,naW.at (by decide +kernel),wf_words⟩
  have tl:(tsV ws5).length=ws5.length:=List.length_map _
  walk_at "rd"
  exact q o m' H5 (g4.trans g5) (F4.same g5) hz hm
 ·have ne0:wWord w cb lo hi wd f x cf cs st≠[]:=by intro h;cases h
  walk_at "rd"
  refine ⟨_,rfl,sgn,l1,fun H1 g1=>?_⟩
  walk_at "rd"
  refine r_splitT ne0 fr (by omega) (by omega) fun l H2 g2 n2 e2=>?_
  walk_at "rd"
  intro a dx no nd ne
  refine ⟨a,dx,l,rfl,upd_same,rfl,?_⟩
  have na2:l≠a:=ne_of_none e2 no
  have nd2:l≠dx:=ne_of_none e2 nd
  have W:Wr K c_Words (upd (upd (upd H2 dx (.own a)) a (.ins c_Words dx [])) a (.ins c_Words dx (wfs l 0))) a (wWord w cb lo hi wd f x cf cs st):=
   ⟨dx,l,_,0,upd_same,(by rw [upd_ne na2,upd_ne na2,upd_ne nd2];exact e2),Nat.zero_le _,rfl,l2⟩
  have g3:Same H2 (upd (upd (upd H2 dx (.own a)) a (.ins c_Words dx [])) a (.ins c_Words dx (wfs l 0))):=same_upd (same_upd (same_upd (Same.refl _) nd) no) no
  have nn2 : ∀ c u,H c=some u→c≠a:=fun c u e z=>by subst z;have:=g2.at (g1.at e);rw [no] at this;cases this
  generalize upd (upd (upd H2 dx (.own a)) a (.ins c_Words dx [])) a (.ins c_Words dx (wfs l 0))=H3 at W g3 ⊢
  walk_at "rd"
  refine .inr (.inl ⟨a,w,sg,cb,lo,hi,wd,f,x,cf,cs,st,rfl,hw,ok,i1,i2,W,fun o H4 s4 W4 F4=>?_⟩)
  have g4:Same H H4:=fun c u e=>s4.oth c u (nn2 c u e) (g3.at (g2.at (g1.at e)))
  walk_at "rd"
  refine r_orR (r_orL ?_)
  walk_at "rd"
  refine .inr (.inl ⟨o,sgB cb sg,lo,hi,wd,f,x,st,rfl,F4,ok,hs,?_⟩)
  obtain ⟨dx5,L5,ws5,n5,e5,hl5,hn5,hd5,hz5⟩:=W4
  have nn:n5=ws5.length:=by
   rcases Nat.lt_or_ge n5 ws5.length with q' | q'
   ·rw [List.drop_eq_getElem_cons q'] at hd5;cases hd5
   ·omega
  have fA:FldAt K H4 a "at" (.int n5):=⟨c_Words,dx5,_,e5,clW,naW.at (by decide +kernel),wf_at⟩
  have fW:FldAt K H4 a "words" (.ref L5):=⟨c_Words,dx5,_,e5,clW,naW.at (by decide +kernel),wf_words⟩
  have tl:(tsV ws5).length=ws5.length:=List.length_map _
  walk_at "rd"
  exact q o H4 g4 F4
 ·have ne0:wChoice ns wd f x cf cs st≠[]:=by intro h;cases h
  walk_at "rd"
  refine ⟨_,rfl,sgn,l1,fun H1 g1=>?_⟩
  walk_at "rd"
  refine r_splitT ne0 fr (by omega) (by omega) fun l H2 g2 n2 e2=>?_
  walk_at "rd"
  intro a dx no nd ne
  refine ⟨a,dx,l,rfl,upd_same,rfl,?_⟩
  have na2:l≠a:=ne_of_none e2 no
  have nd2:l≠dx:=ne_of_none e2 nd
  have W:Wr K c_Words (upd (upd (upd H2 dx (.own a)) a (.ins c_Words dx [])) a (.ins c_Words dx (wfs l 0))) a (wChoice ns wd f x cf cs st):=
   ⟨dx,l,_,0,upd_same,(by rw [upd_ne na2,upd_ne na2,upd_ne nd2];exact e2),Nat.zero_le _,rfl,l2⟩
  have g3:Same H2 (upd (upd (upd H2 dx (.own a)) a (.ins c_Words dx [])) a (.ins c_Words dx (wfs l 0))):=same_upd (same_upd (same_upd (Same.refl _) nd) no) no
  have nn2 : ∀ c u,H c=some u→c≠a:=fun c u e z=>by subst z;have:=g2.at (g1.at e);rw [no] at this;cases this
  generalize upd (upd (upd H2 dx (.own a)) a (.ins c_Words dx [])) a (.ins c_Words dx (wfs l 0))=H3 at W g3 ⊢
  walk_at "rd"
  refine .inr (.inr ⟨a,ns,wd,f,x,cf,cs,st,rfl,ok,i1,i2,W,fun o L H4 s4 W4 F4 n4 e4=>?_⟩)
  have g4:Same H H4:=fun c u e=>s4.oth c u (nn2 c u e) (g3.at (g2.at (g1.at e)))
  walk_at "rd"
  refine r_orR (r_orR ?_)
  walk_at "rd"
  refine .inr (.inr ⟨o,L,ns,wd,f,x,st,rfl,F4,SqL.of e4,ok,hs,?_⟩)
  obtain ⟨dx5,L5,ws5,n5,e5,hl5,hn5,hd5,hz5⟩:=W4
  have nn:n5=ws5.length:=by
   rcases Nat.lt_or_ge n5 ws5.length with q' | q'
   ·rw [List.drop_eq_getElem_cons q'] at hd5;cases hd5
   ·omega
  have fA:FldAt K H4 a "at" (.int n5):=⟨c_Words,dx5,_,e5,clW,naW.at (by decide +kernel),wf_at⟩
  have fW:FldAt K H4 a "words" (.ref L5):=⟨c_Words,dx5,_,e5,clW,naW.at (by decide +kernel),wf_words⟩
  have tl:(tsV ws5).length=ws5.length:=List.length_map _
  walk_at "rd"
  refine q o L H4 g4 F4 ?_ e4
  cases hL:H L with
  | none=>rfl
  | some u=>rw [g3.at (g2.at (g1.at hL))] at n4;cases n4
theorem sgn_lt {c:Nat} (h:Sgn c):c < 127:=by
 rcases h with rfl | h
 ·decide
 ·exact (show ∀ c ∈ Lt allS,c < 127 by decide +kernel) c h
def sp_law_whole (K:W.Frag):Sp:=fun vs H Q _=>∃ i:Int,vs=[.int i]∧Q (.bl true) H
theorem c_whole {K:W.Frag} {i:Int} {H:Hp} {Q:VK} {E:XK} (q:Q (.bl true) H):sp_law_whole K ([.int i]++[]) H Q E:=⟨i,rfl,q⟩
local macro_rules | `(tactic| walk_at "rdc")=>`(tactic| (with_reducible refine c_whole ?_))
def sp_law_all_signs (K:W.Frag):Sp:=fun vs H Q _=>vs=[] ∧ ∀ l:List Nat,l=32::Lt allS→l.length=94→(∀ c ∈ l,Sgn c)→l.Pairwise (· < ·)→(∀ c ∈ l.drop 1,c≠32)→Q (.str (T l)) H
theorem c_signs {K:W.Frag} {H:Hp} {Q:VK} {E:XK} (q : ∀ l:List Nat,l.length=94→(∀ c ∈ l,Sgn c)→l.Pairwise (· < ·)→(∀ c ∈ l.drop 1,c≠32)→Q (.str (T l)) H):sp_law_all_signs K ([]++[]) H Q E:=⟨rfl,fun l _=>q l⟩
theorem c_signsE {K:W.Frag} {H:Hp} {Q:VK} {E:XK} (q:Q (.str (T (32::Lt allS))) H):sp_law_all_signs K ([]++[]) H Q E:=⟨rfl,fun l e _ _ _ _=>by rw [e];exact q⟩
local macro_rules | `(tactic| walk_at "rdc")=>`(tactic| ((with_reducible refine c_signs ?_);intro l' hl' al' pl' bl'))
def sp_law_drawn_sign (K:W.Frag):Sp:=fun vs H Q _=>∃ n t:Int,vs=[.int n,.int t]∧0≤t ∧ ∀ c:Nat,Sgn c→Q (.str (T [c])) H
theorem c_sign {K:W.Frag} {n t:Int} {H:Hp} {Q:VK} {E:XK} (h1:0≤t) (q : ∀ c:Nat,Sgn c→Q (.str (T [c])) H):sp_law_drawn_sign K ([.int n,.int t]++[]) H Q E:=⟨n,t,rfl,h1,q⟩
local macro_rules | `(tactic| walk_at "rdc")=>`(tactic| ((with_reducible refine' c_sign ?h1 ?_);(case h1=>omega);intro c' hc'))
def SpecN (H:Hp) (p:Addr) (fg pl b:Int) (sn:Str) (z:Int) (m pt:Nat) (wy:Str) (wd:Int) (f:Nat) (x:Str) (st:Bool):Prop:=H p=some (.tup [.str "number", .int fg,.int pl,.int b,.str sn,.int z,.str (T [m]),.str (T [pt]),.str wy,.int wd,.str (T [f]),.str x,.bl st])
def Sg3 (m pt f:Nat):Prop:=Sgn m∧Sgn pt∧Sgn f
def sp_law_number_spec (K:W.Frag):Sp:=fun vs H Q _=>∃ (c o:Int),vs=[.int c,.int o,.int 0] ∧ ∀ p H' fg pl b sn z m pt wy wd f x st,Same H H'→NumS fg pl b sn z m pt wy wd f x→Sg3 m pt f→SpecN H' p fg pl b sn z m pt wy wd f x st→Q (.ref p) H'
theorem ok_law_cell_at {f:Addr} {fd:FuncData} (F:Fun K "_law_cell_at" "_law_cell_at" s_law_cell_at f fd) (B:Blt mg):FnOk P w K mg base CX0 1 f fd ["_law_script", "_law_k"] (sp_law_cell_at K):=by
 refine F.ok sc_law_cell_at (fun vs H Q E h=>?_) (fun cdv A outer s H vs Q E hr h=>?_)
 ·obtain ⟨a,ns,k,rfl,hS,hk,q⟩:=h
  rfl
 obtain ⟨a,ns,k,rfl,hS,hk,q⟩:=h
 refine ⟨_,pss_cons (ps_if (pt_cmpR op_lt (pv 1) (pe_callBH call_lenN B.z_len rfl bo_len (pa_cons (pv 0) (pa_nil))) (nomark _)) (pss_one (ps_ret (pe_ix ix_list (pv 0) (pv 1) (fun _ _=>rfl)))) (pss_nil))
  (pss_one (ps_ret (pe_int))),?_⟩
 walk_at "st"
 walk_at "rd"
 ·rename_i hc
  rw [List.length_map] at hc
  exact r_ixAll hS hk (by rw [List.length_map];omega) fun x hx=>by
   obtain ⟨v,_,rfl⟩:=List.mem_map.mp (List.mem_of_getElem? hx)
   exact q v
 ·exact q 0
theorem ok_law_pick {f:Addr} {fd:FuncData} (F:Fun K "_law_pick" "_law_pick" s_law_pick f fd) (B:Blt mg):FnOk P w K mg base CX0 1 f fd ["_law_cell", "_law_salt", "_law_many"] (sp_law_pick K):=by classical
 refine F.ok sc_law_pick (fun vs H Q E h=>?_) (fun cdv A outer s H vs Q E hr h=>?_)
 ·obtain ⟨c,t,m,rfl,ht,hm,q⟩:=h
  rfl
 obtain ⟨c,t,m,rfl,ht,hm,q⟩:=h
 refine ⟨_,pss_cons (ps_if (PW.pt (pw_and (pt_cmpR op_gt (pv 0) (pe_powK (k:=1000000000000000000) (by unfold CPow;decide) (by decide +kernel)) (nomark _)) (pw_and1 (pt_cmpR op_gt (pe_op op_shrP (pv 0) (pe_op op_mulA (pe_int) (pv 1))) (pe_int) (nomark _))))) (pss_one (ps_ret (pe_op op_modP (pe_op op_modP (pe_op op_shrP (pv 0) (pe_op op_mulA (pe_int) (pv 1))) (pe_int)) (pv 2)))) (pss_nil))
  (pss_cons (ps_set (i:=3) sc_law_pick.nd rfl (Or.inl rfl) (pe_op op_modP (pe_op op_add (pe_op op_add (pe_op op_modP (pv 0) (pe_int)) (pe_int)) (pe_op op_mulA (pe_int) (pv 1))) (pe_int)))
  (pss_cons (ps_set (i:=3) sc_law_pick.nd rfl (Or.inl rfl) (pe_op op_modP (pe_op op_mulA (pv 3) (pv 3)) (pe_int)))
  (pss_cons (ps_set (i:=4) sc_law_pick.nd rfl (Or.inl rfl) (pe_op op_modP (pe_op op_mulA (pe_op op_add (pv 3) (pe_int)) (pe_op op_add (pe_op op_add (pe_op op_fdivB (pv 3) (pe_int)) (pe_int)) (pv 1))) (pe_int)))
  (pss_one (ps_ret (pe_op op_modP (pe_op op_fdivB (pv 4) (pe_int)) (pv 2))))))),?_⟩
 walk_at "st"
 have n0 : ∀ a:Int,0≤a % m∧a % m < m:=fun a=>⟨Int.emod_nonneg _ (by omega),Int.emod_lt_of_pos _ hm⟩
 unfold pk pkA at q
 walk_at "rd"
 ·rename_i c1 c2
  rw [if_pos ⟨c1,c2⟩] at q
  exact q (n0 _).1 (n0 _).2
 ·rename_i c1 c2
  rw [if_neg (fun y=>c2 y.2)] at q
  exact q (n0 _).1 (n0 _).2
 ·rename_i c1
  rw [if_neg (fun y=>c1 y.1)] at q
  exact q (n0 _).1 (n0 _).2
theorem ok_law_whole {f:Addr} {fd:FuncData} (F:Fun K "_law_whole" "_law_whole" s_law_whole f fd) (B:Blt mg):FnOk P w K mg base CX0 1 f fd ["_law_thing"] (sp_law_whole K):=by
 refine F.ok sc_law_whole (fun vs H Q E h=>?_) (fun cdv A outer s H vs Q E hr h=>?_)
 ·obtain ⟨i,rfl,q⟩:=h
  rfl
 obtain ⟨i,rfl,q⟩:=h
 refine ⟨_,pss_one (ps_ret (pe_and (pe_callBH call_isi B.z_isinstance rfl bo_isinstance (pa_cons (pv 0) (pa_cons (pe_bltn rfl B.z_int bo_int (v:=.ty "int") rfl) (pa_nil)))) (pe_one (pe_not (pe_callBH call_isi B.z_isinstance rfl bo_isinstance (pa_cons (pv 0) (pa_cons (pe_bltn rfl B.z_bool bo_bool (v:=.ty "bool") rfl) (pa_nil)))))))),?_⟩
 walk_at "st"
 walk_at "rd"
 exact q
theorem ok_law_all_signs {f:Addr} {fd:FuncData} (F:Fun K "_law_all_signs" "_law_all_signs" s_law_all_signs f fd) (B:Blt mg):FnOk P w K mg base CX0 1 f fd [] (sp_law_all_signs K):=by
 refine F.ok sc_law_all_signs (fun vs H Q E h=>?_) (fun cdv A outer s H vs Q E hr h=>?_)
 ·obtain ⟨rfl,q⟩:=h
  rfl
 obtain ⟨rfl,q⟩:=h
 refine ⟨_,pss_one (ps_ret (pe_str)),?_⟩
 walk_at "st"
 walk_at "rd"
 have q':=q (Lt " !\"#$&'()*+,-./0123456789:;<=>?@ABCDEFGHIJKLMNOPQRSTUVWXYZ[\\]^_`abcdefghijklmnopqrstuvwxyz{|}~") (by decide +kernel) (by decide +kernel) (by
  have : ∀ c ∈ Lt " !\"#$&'()*+,-./0123456789:;<=>?@ABCDEFGHIJKLMNOPQRSTUVWXYZ[\\]^_`abcdefghijklmnopqrstuvwxyz{|}~", c=32∨c ∈ Lt allS:=by decide +kernel
  exact this) (by decide +kernel) (by decide +kernel)
 rw [T_Lt] at q'
 exact q'
theorem ok_law_drawn_sign {f:Addr} {fd:FuncData} (F:Fun K "_law_drawn_sign" "_law_drawn_sign" s_law_drawn_sign f fd) (B:Blt mg) (C_law_pick:Has P w K mg base "_law_pick" 1 ["_law_cell", "_law_salt", "_law_many"] (sp_law_pick K)) (C_law_all_signs:Has P w K mg base "_law_all_signs" 1 [] (sp_law_all_signs K)):FnOk P w K mg base CX0 2 f fd ["_law_cell", "_law_salt"] (sp_law_drawn_sign K):=by classical
 refine F.ok sc_law_drawn_sign (fun vs H Q E h=>?_) (fun cdv A outer s H vs Q E hr h=>?_)
 ·obtain ⟨n,t,rfl,h0,q⟩:=h
  rfl
 obtain ⟨n,t,rfl,h0,q⟩:=h
 refine ⟨_,pss_cons (ps_set (i:=2) sc_law_drawn_sign.nd rfl (Or.inl rfl) (pe_str))
  (pss_cons (ps_if (pt_cmpR op_gt (pe_callH C_law_pick hr rfl (pa_cons (pv 0) (pa_cons (pv 1) (pa_cons (pe_int) (pa_nil))))) (pe_int) (nomark _)) (pss_one (ps_ret (pe_ix ix_str (pv 2) (pe_callH C_law_pick hr rfl (pa_cons (pv 0) (pa_cons (pe_op op_add (pv 1) (pe_int)) (pa_cons (pe_callBH call_lenT B.z_len rfl bo_len (pa_cons (pv 2) (pa_nil))) (pa_nil))))) (fun _ _=>rfl)))) (pss_nil))
  (pss_one (ps_ret (pe_ix ix_str (pe_callH0 C_law_all_signs hr rfl) (pe_callH C_law_pick hr rfl (pa_cons (pv 0) (pa_cons (pe_op op_add (pv 1) (pe_int)) (pa_cons (pe_int) (pa_nil))))) (fun _ _=>rfl))))),?_⟩
 walk_at "st"
 have l13:(Lt " 0-+(1*)_,.9f").length=13:=by decide +kernel
 have a1 : ∀ c ∈ Lt " 0-+(1*)_,.9f", c=32∨c ∈ Lt allS:=by decide +kernel
 walk_at "rd"
 ·rename_i c' hc';exact q _ (a1 _ hc')
 ·rename_i l' hl' al' pl' bl' v' h0' h1'
  refine q _ (al' _ ?_)
  rw [List.getD_eq_getElem?_getD,List.getElem?_eq_getElem (by omega)]
  exact List.getElem_mem _
theorem ok_law_number_spec {f:Addr} {fd:FuncData} (F:Fun K "_law_number_spec" "_law_number_spec" s_law_number_spec f fd) (B:Blt mg) (C_law_pick:Has P w K mg base "_law_pick" 1 ["_law_cell", "_law_salt", "_law_many"] (sp_law_pick K)) (C_law_drawn_sign:Has P w K mg base "_law_drawn_sign" 2 ["_law_cell", "_law_salt"] (sp_law_drawn_sign K)):FnOk P w K mg base CX0 3 f fd ["_law_cell", "_law_other", "_law_small"] (sp_law_number_spec K):=by classical
 refine F.ok sc_law_number_spec (fun vs H Q E h=>?_) (fun cdv A outer s H vs Q E hr h=>?_)
 ·obtain ⟨c,o,rfl,q⟩:=h
  rfl
 obtain ⟨c,o,rfl,q⟩:=h
 refine ⟨_,pss_cons (ps_set (i:=3) sc_law_number_spec.nd rfl (Or.inl rfl) (pe_op op_add (pe_int) (pe_callH C_law_pick hr rfl (pa_cons (pv 0) (pa_cons (pe_int) (pa_cons (pe_ix ix_list (pe_lst (pa_cons (pe_int) (pa_cons (pe_int) (pa_nil)))) (pv 2) (fun _ _=>rfl)) (pa_nil)))))))
  (pss_cons (ps_set (i:=4) sc_law_number_spec.nd rfl (Or.inl rfl) (pe_callH C_law_pick hr rfl (pa_cons (pv 0) (pa_cons (pe_int) (pa_cons (pe_ix ix_list (pe_lst (pa_cons (pe_int) (pa_cons (pe_int) (pa_nil)))) (pv 2) (fun _ _=>rfl)) (pa_nil))))))
  (pss_cons (ps_set (i:=5) sc_law_number_spec.nd rfl (Or.inl rfl) (pe_ix ix_list (pe_lst (pa_cons (pe_int) (pa_cons (pe_int) (pa_cons (pe_ix ix_list (pe_lst (pa_cons (pe_int) (pa_cons (pe_int) (pa_nil)))) (pv 2) (fun _ _=>rfl)) (pa_cons (pe_ix ix_list (pe_lst (pa_cons (pe_op op_add (pe_int) (pe_callH C_law_pick hr rfl (pa_cons (pv 0) (pa_cons (pe_int) (pa_cons (pe_int) (pa_nil)))))) (pa_cons (pe_int) (pa_nil)))) (pv 2) (fun _ _=>rfl)) (pa_nil)))))) (pe_callH C_law_pick hr rfl (pa_cons (pv 0) (pa_cons (pe_int) (pa_cons (pe_int) (pa_nil))))) (fun _ _=>rfl)))
  (pss_cons (ps_set (i:=6) sc_law_number_spec.nd rfl (Or.inl rfl) (pe_ix ix_list (pe_lst (pa_cons (pe_str) (pa_cons (pe_str) (pa_cons (pe_strT (l:=[98,108,97,110,107]) (by decide +kernel)) (pa_cons (pe_str) (pa_cons (pe_str) (pa_nil))))))) (pe_callH C_law_pick hr rfl (pa_cons (pv 0) (pa_cons (pe_int) (pa_cons (pe_int) (pa_nil))))) (fun _ _=>rfl)))
  (pss_cons (ps_set (i:=7) sc_law_number_spec.nd rfl (Or.inl rfl) (pe_ix ix_list (pe_lst (pa_cons (pe_int) (pa_cons (pe_int) (pa_cons (pe_op op_add (pe_int) (pe_callH C_law_pick hr rfl (pa_cons (pv 0) (pa_cons (pe_int) (pa_cons (pe_int) (pa_nil)))))) (pa_nil))))) (pe_callH C_law_pick hr rfl (pa_cons (pv 0) (pa_cons (pe_int) (pa_cons (pe_int) (pa_nil))))) (fun _ _=>rfl)))
  (pss_cons (ps_set (i:=8) sc_law_number_spec.nd rfl (Or.inl rfl) (pe_ix ix_list (pe_lst (pa_cons (pe_str) (pa_cons (pe_str) (pa_cons (pe_str) (pa_cons (pe_str) (pa_cons (pe_str) (pa_nil))))))) (pe_callH C_law_pick hr rfl (pa_cons (pv 0) (pa_cons (pe_int) (pa_cons (pe_int) (pa_nil))))) (fun _ _=>rfl)))
  (pss_cons (ps_set (i:=9) sc_law_number_spec.nd rfl (Or.inl rfl) (pe_tup (pa_cons (pe_callH C_law_drawn_sign hr rfl (pa_cons (pv 1) (pa_cons (pe_int) (pa_nil)))) (pa_cons (pe_callH C_law_drawn_sign hr rfl (pa_cons (pv 1) (pa_cons (pe_int) (pa_nil)))) (pa_cons (pe_callH C_law_drawn_sign hr rfl (pa_cons (pv 1) (pa_cons (pe_int) (pa_nil)))) (pa_nil))))))
  (pss_cons (ps_set (i:=10) sc_law_number_spec.nd rfl (Or.inl rfl) (pe_lst (pa_cons (pe_int) (pa_cons (pe_op op_add (pe_int) (pe_callH C_law_pick hr rfl (pa_cons (pv 1) (pa_cons (pe_int) (pa_cons (pe_ix ix_list (pe_lst (pa_cons (pe_int) (pa_cons (pe_int) (pa_nil)))) (pv 2) (fun _ _=>rfl)) (pa_nil)))))) (pa_cons (pe_op op_add (pe_int) (pe_callH C_law_pick hr rfl (pa_cons (pv 1) (pa_cons (pe_int) (pa_cons (pe_ix ix_list (pe_lst (pa_cons (pe_int) (pa_cons (pe_int) (pa_nil)))) (pv 2) (fun _ _=>rfl)) (pa_nil)))))) (pa_nil))))))
  (pss_cons (ps_set (i:=11) sc_law_number_spec.nd rfl (Or.inl rfl) (pe_ix ix_list (pv 10) (pe_callH C_law_pick hr rfl (pa_cons (pv 1) (pa_cons (pe_int) (pa_cons (pe_int) (pa_nil))))) (fun _ _=>rfl)))
  (pss_cons (ps_set (i:=12) sc_law_number_spec.nd rfl (Or.inl rfl) (pe_ix ix_list (pe_lst (pa_cons (pe_str) (pa_cons (pe_str) (pa_cons (pe_str) (pa_cons (pe_str) (pa_nil)))))) (pe_callH C_law_pick hr rfl (pa_cons (pv 1) (pa_cons (pe_int) (pa_cons (pe_int) (pa_nil))))) (fun _ _=>rfl)))
  (pss_cons (ps_set (i:=13) sc_law_number_spec.nd rfl (Or.inl rfl) (pe_cmpR op_eq (pe_callH C_law_pick hr rfl (pa_cons (pv 1) (pa_cons (pe_int) (pa_cons (pe_int) (pa_nil))))) (pe_int) (nomark _)))
  (pss_one (ps_ret (pe_tup (pa_cons (pe_strT (l:=[110,117,109,98,101,114]) (by decide +kernel)) (pa_cons (pv 3) (pa_cons (pv 4) (pa_cons (pv 5) (pa_cons (pv 6) (pa_cons (pv 7) (pa_cons (pe_ix ix_tup (pv 9) (pe_int) (fun _ _=>rfl)) (pa_cons (pe_ix ix_tup (pv 9) (pe_int) (fun _ _=>rfl)) (pa_cons (pv 8) (pa_cons (pv 11) (pa_cons (pe_ix ix_tup (pv 9) (pe_int) (fun _ _=>rfl)) (pa_cons (pv 12) (pa_cons (pv 13) (pa_nil) se_Name) se_Name) se_Subscript) se_Name) se_Name) se_Subscript) se_Subscript) se_Name) se_Name) se_Name) se_Name) se_Name) se_Constant)))))))))))))),?_⟩
 walk_at "st"
 walk_at "rd"
 rename_i p4 H4 g4 e4 v3 h03 h13 p3 H3 g3 e3 v2 h02 h12 p2 H2 g2 e2 v1 h01 h11 p1 H1 g1 e1 p0 H0 g0 e0 v0 h00 h10
 refine r_ixAll (SqL.of e0) (by omega) (by show _ < (4:Int);omega) fun x hx=>?_
 have hm:=List.mem_of_getElem? hx
 simp only [List.mem_cons,List.not_mem_nil,or_false] at hm
 have hx : ∃ b:Int,x = .int b∧2≤b∧b≤16:=by
  rcases hm with rfl | rfl | rfl | rfl
  ·exact ⟨_,rfl,by omega,by omega⟩
  ·exact ⟨_,rfl,by omega,by omega⟩
  ·exact ⟨_,rfl,by omega,by omega⟩
  ·exact ⟨_,rfl,by omega,by omega⟩
 obtain ⟨b,rfl,b1,b2⟩:=hx
 have gA:Same H H0:=by walk_at "sm"
 clear hm e0 e1 e2 e3 e4
 walk_at "rd"
 rename_i p5 H5 g5 e5 v5 h05 h15
 refine r_ixAll (SqL.of e5) (by omega) (by show _ < (5:Int);omega) fun x hx=>?_
 have hm:=List.mem_of_getElem? hx
 simp only [List.mem_cons,List.not_mem_nil,or_false] at hm
 have hx : ∃ sn:Str,x = .str sn∧Style sn:=by
  rcases hm with rfl | rfl | rfl | rfl | rfl
  ·exact ⟨_,rfl,.inl rfl⟩
  ·exact ⟨_,rfl,.inr (.inl rfl)⟩
  ·exact ⟨_,rfl,.inr (.inr (.inl rfl))⟩
  ·exact ⟨_,rfl,.inr (.inr (.inr (.inl rfl)))⟩
  ·exact ⟨_,rfl,.inr (.inr (.inr (.inr rfl)))⟩
 obtain ⟨sn,rfl,hsn⟩:=hx
 clear hm e5
 walk_at "rd"
 rename_i v6 h06 h16 p7 H7 g7 e7 v7 h07 h17
 refine r_ixAll (SqL.of e7) (by omega) (by show _ < (3:Int);omega) fun x hx=>?_
 have hm:=List.mem_of_getElem? hx
 simp only [List.mem_cons,List.not_mem_nil,or_false] at hm
 have hx : ∃ z:Int,x = .int z∧0≤z∧z≤9:=by
  rcases hm with rfl | rfl | rfl
  ·exact ⟨_,rfl,by omega,by omega⟩
  ·exact ⟨_,rfl,by omega,by omega⟩
  ·exact ⟨_,rfl,by omega,by omega⟩
 obtain ⟨z,rfl,z1,z2⟩:=hx
 clear hm e7
 walk_at "rd"
 rename_i p8 H8 g8 e8 v8 h08 h18
 refine r_ixAll (SqL.of e8) (by omega) (by show _ < (5:Int);omega) fun x hx=>?_
 have hm:=List.mem_of_getElem? hx
 simp only [List.mem_cons,List.not_mem_nil,or_false] at hm
 have hx : ∃ wy:Str,x = .str wy∧Way wy:=by
  rcases hm with rfl | rfl | rfl | rfl | rfl
  ·exact ⟨_,rfl,.inl rfl⟩
  ·exact ⟨_,rfl,.inr (.inl rfl)⟩
  ·exact ⟨_,rfl,.inr (.inr (.inl rfl))⟩
  ·exact ⟨_,rfl,.inr (.inr (.inr (.inl rfl)))⟩
  ·exact ⟨_,rfl,.inr (.inr (.inr (.inr rfl)))⟩
 obtain ⟨wy,rfl,hwy⟩:=hx
 clear hm e8
 walk_at "rd"
 rename_i c3 hc3 c2 hc2 c1 hc1 pA HA gA1 eA pB HB gB eB v9 h09 h19 pC HC gC eC v10 h010 h110 pD HD gD eD v11 h011 h111
 refine r_ixAll (SqL.of eD) (by omega) (by show _ < (3:Int);omega) fun x hx=>?_
 have hm:=List.mem_of_getElem? hx
 simp only [List.mem_cons,List.not_mem_nil,or_false] at hm
 have hx : ∃ wd:Int,x = .int wd∧0≤wd∧wd≤40:=by
  rcases hm with rfl | rfl | rfl
  ·exact ⟨_,rfl,by omega,by omega⟩
  ·exact ⟨_,rfl,by omega,by omega⟩
  ·exact ⟨_,rfl,by omega,by omega⟩
 obtain ⟨wd,rfl,w1,w2⟩:=hx
 clear hm eD eC eB
 walk_at "rd"
 rename_i pE HE gE eE v12 h012 h112
 refine r_ixAll (SqL.of eE) (by omega) (by show _ < (4:Int);omega) fun x hx=>?_
 have hm:=List.mem_of_getElem? hx
 simp only [List.mem_cons,List.not_mem_nil,or_false] at hm
 have hx : ∃ y:Str,x = .str y∧SideI y:=by
  rcases hm with rfl | rfl | rfl | rfl
  ·exact ⟨_,rfl,.inl (.inr (.inl rfl))⟩
  ·exact ⟨_,rfl,.inl (.inl rfl)⟩
  ·exact ⟨_,rfl,.inl (.inr (.inr rfl))⟩
  ·exact ⟨_,rfl,.inr rfl⟩
 obtain ⟨y,rfl,hy⟩:=hx
 clear hm eE
 walk_at "rd"
 rename_i v13 h013 h113 pF HF gF eF
 exact q _ _ _ _ _ _ _ _ _ _ _ _ _ _ (by walk_at "sm") ⟨by omega,by omega,by omega,by omega,b1,b2,hsn,z1,z2,sgn_lt (by assumption),sgn_lt (by assumption),hwy,w1,w2,sgn_lt (by assumption),hy⟩ ⟨by assumption,by assumption,by assumption⟩ eF
theorem picks_asc {a:List Nat} (ha:a.Pairwise (· < ·)) {s st:Int} (h0:0≤s) (h1:s < a.length) (h2:1≤st):(picks (T a) (some s) none st).Pairwise (· < ·):=by
 have e:Builtin.Str.strSliceIndices (some s) none st (T a).length=(List.range (((a.length:Int) - s+st - 1) / st).toNat).map fun k:Nat=>(s+st*(k:Int)).toNat:=by
  have l:((T a).length:Int)=a.length:=rfl
  unfold Builtin.Str.strSliceIndices
  dsimp only
  rw [l,if_neg (show ¬ s < 0 by omega),if_pos (show st > 0 by omega),if_pos (show st > 0 by omega),Int.min_eq_left (by omega),Int.max_eq_right h0]
  unfold sliceRange
  rw [if_pos (show st > 0 by omega),if_pos h1]
 unfold picks
 rw [e,Lt_T,List.pairwise_filterMap,List.pairwise_map]
 refine List.Pairwise.imp ?_ List.pairwise_lt_range
 intro i j hij b hb c hc
 obtain ⟨hi,rfl⟩:=List.getElem?_eq_some_iff.mp hb
 obtain ⟨hj,rfl⟩:=List.getElem?_eq_some_iff.mp hc
 refine (List.pairwise_iff_getElem.mp ha) _ _ hi hj ?_
 have:st*(i:Int) < st*(j:Int):=Int.mul_lt_mul_of_pos_left (by omega) (by omega)
 have p0:0≤st*(i:Int):=Int.mul_nonneg (by omega) (by omega)
 omega
def SpecW (H:Hp) (p:Addr) (sg:List Nat) (lo hi wd:Int) (f:Nat) (x:Str) (st:Bool):Prop:=H p=some (.tup [.str "word", .str (T sg),.int lo,.int hi,.int wd,.str (T [f]),.str x,.bl st])
structure SgD (sg:List Nat):Prop where
 s1:1≤sg.length
 s2:sg.length≤200
 up:sg.Pairwise (· < ·)
 sgn : ∀ c ∈ sg,Sgn c
structure WdR (lo hi wd:Int) (f:Nat) (x:Str):Prop where
 lo1:0≤lo
 lo2:lo≤hi
 hi2:hi≤24
 wd1:0≤wd
 wd2:wd≤40
 f:Sgn f
 x:Side x
def sp_law_word_spec (K:W.Frag):Sp:=fun vs H Q _=>∃ (c o:Int),vs=[.int c,.int o,.int 0] ∧ ∀ p H' sg lo hi wd f x st,Same H H'→SgD sg→WdR lo hi wd f x→SpecW H' p sg lo hi wd f x st→Q (.ref p) H'
theorem ok_law_word_spec {f:Addr} {fd:FuncData} (F:Fun K "_law_word_spec" "_law_word_spec" s_law_word_spec f fd) (B:Blt mg) (C_law_pick:Has P w K mg base "_law_pick" 1 ["_law_cell", "_law_salt", "_law_many"] (sp_law_pick K)) (C_law_all_signs:Has P w K mg base "_law_all_signs" 1 [] (sp_law_all_signs K)) (C_law_drawn_sign:Has P w K mg base "_law_drawn_sign" 2 ["_law_cell", "_law_salt"] (sp_law_drawn_sign K)):FnOk P w K mg base CX0 3 f fd ["_law_cell", "_law_other", "_law_small"] (sp_law_word_spec K):=by classical
 refine F.ok sc_law_word_spec (fun vs H Q E h=>?_) (fun cdv A outer s H vs Q E hr h=>?_)
 ·obtain ⟨c,o,rfl,q⟩:=h
  rfl
 obtain ⟨c,o,rfl,q⟩:=h
 refine ⟨_,pss_cons (ps_set (i:=3) sc_law_word_spec.nd rfl (Or.inl rfl) (pe_callH C_law_pick hr rfl (pa_cons (pv 0) (pa_cons (pe_int) (pa_cons (pe_int) (pa_nil))))))
  (pss_cons (ps_set (i:=4) sc_law_word_spec.nd rfl (Or.inl rfl) (pe_op op_add (pe_int) (pe_callH C_law_pick hr rfl (pa_cons (pv 0) (pa_cons (pe_int) (pa_cons (pe_int) (pa_nil)))))))
  (pss_cons (ps_set (i:=5) sc_law_word_spec.nd rfl (Or.inl rfl) (pe_slice sl_str (pe_slice3 (pe_callH0 C_law_all_signs hr rfl) (po_some (pv 3)) (po_none) (pv 4)) (po_none) (po_some (pe_op op_add (pe_int) (pe_callH C_law_pick hr rfl (pa_cons (pv 0) (pa_cons (pe_int) (pa_cons (pe_ix ix_list (pe_lst (pa_cons (pe_int) (pa_cons (pe_int) (pa_nil)))) (pv 2) (fun _ _=>rfl)) (pa_nil)))))))))
  (pss_cons (ps_set (i:=6) sc_law_word_spec.nd rfl (Or.inl rfl) (pe_callH C_law_pick hr rfl (pa_cons (pv 1) (pa_cons (pe_int) (pa_cons (pe_ix ix_list (pe_lst (pa_cons (pe_int) (pa_cons (pe_int) (pa_nil)))) (pv 2) (fun _ _=>rfl)) (pa_nil))))))
  (pss_cons (ps_set (i:=7) sc_law_word_spec.nd rfl (Or.inl rfl) (pe_callBH (call_min2N rfl) B.z_min rfl bo_min (pa_cons (pe_int) (pa_cons (pe_op op_add (pv 6) (pe_callH C_law_pick hr rfl (pa_cons (pv 1) (pa_cons (pe_int) (pa_cons (pe_ix ix_list (pe_lst (pa_cons (pe_int) (pa_cons (pe_int) (pa_nil)))) (pv 2) (fun _ _=>rfl)) (pa_nil)))))) (pa_nil)))))
  (pss_cons (ps_set (i:=8) sc_law_word_spec.nd rfl (Or.inl rfl) (pe_ix ix_list (pe_lst (pa_cons (pe_ix ix_str (pv 5) (pe_int) (fun _ _=>rfl)) (pa_cons (pe_callH C_law_drawn_sign hr rfl (pa_cons (pv 1) (pa_cons (pe_int) (pa_nil)))) (pa_cons (pe_ix ix_str (pv 5) (pe_un un_neg (pe_int)) (fun _ _=>rfl)) (pa_nil))))) (pe_callH C_law_pick hr rfl (pa_cons (pv 1) (pa_cons (pe_int) (pa_cons (pe_int) (pa_nil))))) (fun _ _=>rfl)))
  (pss_cons (ps_set (i:=9) sc_law_word_spec.nd rfl (Or.inl rfl) (pe_ix ix_list (pe_lst (pa_cons (pe_int) (pa_cons (pe_op op_add (pe_int) (pe_callH C_law_pick hr rfl (pa_cons (pv 1) (pa_cons (pe_int) (pa_cons (pe_ix ix_list (pe_lst (pa_cons (pe_int) (pa_cons (pe_int) (pa_nil)))) (pv 2) (fun _ _=>rfl)) (pa_nil)))))) (pa_cons (pv 7) (pa_nil))))) (pe_callH C_law_pick hr rfl (pa_cons (pv 1) (pa_cons (pe_int) (pa_cons (pe_int) (pa_nil))))) (fun _ _=>rfl)))
  (pss_cons (ps_set (i:=10) sc_law_word_spec.nd rfl (Or.inl rfl) (pe_ix ix_list (pe_lst (pa_cons (pe_str) (pa_cons (pe_str) (pa_cons (pe_str) (pa_nil))))) (pe_callH C_law_pick hr rfl (pa_cons (pv 1) (pa_cons (pe_int) (pa_cons (pe_int) (pa_nil))))) (fun _ _=>rfl)))
  (pss_one (ps_ret (pe_tup (pa_cons (pe_strT (l:=[119,111,114,100]) (by decide +kernel)) (pa_cons (pv 5) (pa_cons (pv 6) (pa_cons (pv 7) (pa_cons (pv 9) (pa_cons (pv 8) (pa_cons (pv 10) (pa_cons (pe_cmpR op_eq (pe_callH C_law_pick hr rfl (pa_cons (pv 1) (pa_cons (pe_int) (pa_cons (pe_int) (pa_nil))))) (pe_int) (nomark _)) (pa_nil) se_Compare) se_Name) se_Name) se_Name) se_Name) se_Name) se_Name) se_Constant))))))))))),?_⟩
 walk_at "st"
 walk_at "rd"
 rename_i v1 h01 h11 v0 h00 h10 l hl al pl bl
 have pa:=picks_asc pl (s:=v1) (st:=1+v0) h01 (by omega) (by omega)
 obtain ⟨p1,p2,p3⟩:=picks_step (a:=l) (s:=v1) (st:=1+v0) h01 (by omega) (by omega)
 refine ⟨T l,rfl,by omega,by show l.length≤sizeLine;rw [hl];decide,Nat.le_of_lt (small1000 (by omega)),fun y hy=>?_⟩
 have hy' : ∃ z:List Nat,y=T z∧0 < z.length∧z.length≤200∧(∀ c ∈ z,Sgn c)∧z.Pairwise (· < ·):=by
  rcases hy with rfl | ⟨_,rfl⟩
  ·exact ⟨_,rfl,List.length_pos_iff.mpr p1,by omega,fun c hc=>al c (p2 c hc),pa⟩
  ·exact ⟨l,rfl,by omega,by omega,al,pl⟩
 obtain ⟨z,rfl,z1,z2,z3,z4⟩:=hy'
 clear hy p1 p2 p3 pa
 walk_at "rd"
 rename_i q3 H3 g3 e3 v3 h03 h13 q2 H2 g2 e2 v2 h02 h12 q1 H1 g1 e1 v9 h09 h19 k0 hk0 c0 hc0 qf Hf gf ef vf hf0 hf1
 have s1:0 < (z.take (1+v3).toNat).length:=by rw [List.length_take];omega
 have s2:(z.take (1+v3).toNat).length≤200:=by rw [List.length_take];omega
 have s3 : ∀ c ∈ z.take (1+v3).toNat,Sgn c:=fun c hc=>z3 c (List.mem_of_mem_take hc)
 have s4:(z.take (1+v3).toNat).Pairwise (· < ·):=List.Pairwise.sublist (List.take_sublist _ _) z4
 generalize z.take (1+v3).toNat=sg at ef s1 s2 s3 s4 ⊢
 have sm : ∀ k,k < sg.length→Sgn (sg.getD k 0):=fun k hk=>s3 _ (by rw [List.getD_eq_getElem?_getD,List.getElem?_eq_getElem hk];exact List.getElem_mem _)
 refine r_ixAll (SqL.of ef) (by omega) (by show _ < (3:Int);omega) fun x hx=>?_
 have hm:=List.mem_of_getElem? hx
 simp only [List.mem_cons,List.not_mem_nil,or_false] at hm
 have hx : ∃ f:Nat,x = .str (T [f])∧Sgn f:=by
  rcases hm with rfl | rfl | rfl
  ·exact ⟨_,rfl,sm _ s1⟩
  ·exact ⟨_,rfl,hc0⟩
  ·exact ⟨_,rfl,sm _ (by omega)⟩
 obtain ⟨f,rfl,hf⟩:=hx
 clear hm ef
 walk_at "rd"
 rename_i q8 H8 g8 e8 v8 h08 h18 q7 H7 g7 e7 v7 h07 h17
 refine r_ixAll (SqL.of e7) (by omega) (by show _ < (3:Int);omega) fun x hx=>?_
 have hm:=List.mem_of_getElem? hx
 simp only [List.mem_cons,List.not_mem_nil,or_false] at hm
 have hx : ∃ wd:Int,x = .int wd∧0≤wd∧wd≤40:=by
  rcases hm with rfl | rfl | rfl
  ·exact ⟨_,rfl,by omega,by omega⟩
  ·exact ⟨_,rfl,by omega,by omega⟩
  ·exact ⟨_,rfl,by omega,by omega⟩
 obtain ⟨wd,rfl,hw0,hw1⟩:=hx
 clear hm e7
 walk_at "rd"
 rename_i q6 H6 g6 e6 v6 h06 h16
 refine r_ixAll (SqL.of e6) (by omega) (by show _ < (3:Int);omega) fun x hx=>?_
 have hm:=List.mem_of_getElem? hx
 simp only [List.mem_cons,List.not_mem_nil,or_false] at hm
 have hx : ∃ y:Str,x = .str y∧Side y:=by
  rcases hm with rfl | rfl | rfl
  ·exact ⟨_,rfl,.inl rfl⟩
  ·exact ⟨_,rfl,.inr (.inl rfl)⟩
  ·exact ⟨_,rfl,.inr (.inr rfl)⟩
 obtain ⟨y,rfl,hy⟩:=hx
 clear hm e6
 walk_at "rd"
 rename_i v5 h05 h15 q5 H5 g5 e5
 exact q _ _ sg v2 k0 wd f y _ (by walk_at "sm") ⟨s1,s2,s4,s3⟩ ⟨h02,by omega,by omega,hw0,hw1,hf,hy⟩ e5
local macro_rules | `(tactic| walk_at "rdc")=>`(tactic| ((with_reducible refine' c_pickD ?h1 ?h2 ?_);(case h1=>omega);(case h2=>omega);intro h0' h1'))
def Sg1 (c:Nat):Prop:=c ∈ Lt allS
structure Nms (ns:List (List Nat)):Prop where
 len : ∀ t ∈ ns,1≤t.length∧t.length≤12
 sgn : ∀ t ∈ ns,∀ c ∈ t,Sg1 c
 nd:ns.Nodup
def sp_law_near_names (K:W.Frag):Sp:=fun vs H Q _=>∃ (c n:Int),vs=[.int c,.int n]∧1≤n∧n≤12 ∧ ∀ p ns H',Same H H'→(ns.length:Int)=n→Nms ns→H' p=some (.lst (tsV ns))→Q (.ref p) H'
theorem fl1 : ∀ cs:List Nat,(cs.map fun c=>[c]).flatten=cs
 | []=>rfl
 | c::cs=>by rw [List.map_cons,List.flatten_cons,fl1 cs];rfl
def nmOf (way mn sz st v:Int) (S B:List Nat) (k:Nat):List Nat:=if way=0 then B.take (k+1) else if way=1 then B.take mn.toNat++[S.getD ((v+k*st) % 93).toNat 0]++(B.take sz.toNat).drop (mn+1).toNat else B.take k++[48]
theorem cut_drop {xs:List V} {i:Int} (h0:0≤i) (h1:i≤xs.length):cutV xs (some i) none=xs.drop i.toNat:=by
 obtain ⟨k,rfl⟩:=Int.eq_ofNat_of_zero_le h0
 unfold cutV
 rw [HT.sIx_nat,HT.sIx_none,Nat.min_eq_left (by omega),List.take_of_length_le (by rw [List.length_drop];omega)];rfl
theorem cut_take {xs:List V} {i:Int} (h0:0≤i) (h1:i≤xs.length):cutV xs none (some i)=xs.take i.toNat:=by
 obtain ⟨k,rfl⟩:=Int.eq_ofNat_of_zero_le h0
 unfold cutV
 rw [HT.sIx_nat,HT.sIx_none,Nat.min_eq_left (by omega)];rfl
section
variable {way mn sz st v : Int} {S B : List Nat} (hS : S.length = 93) (hB : B.length = 12) (sg : ∀ c ∈ S, Sg1 c) (bs : ∀ c ∈ B, c ∈ S) (up : S.Pairwise (· < ·)) (m0 : 0 ≤ mn) (m1 : mn < sz) (z1 : sz ≤ 12) (t0 : 1 ≤ st) (t1 : st ≤ 8)
include hB m0 m1 z1 in
theorem nm_len {k:Nat} (hk:k < 12):1≤(nmOf way mn sz st v S B k).length∧(nmOf way mn sz st v S B k).length≤12:=by
 unfold nmOf
 split
 ·rw [List.length_take,hB];omega
 ·split
  ·simp only [List.length_append,List.length_take,List.length_drop,List.length_cons,List.length_nil,hB];omega
  ·simp only [List.length_append,List.length_take,List.length_cons,List.length_nil,hB];omega
include hS sg bs in
theorem nm_sgn {k:Nat} : ∀ c ∈ nmOf way mn sz st v S B k,Sg1 c:=by
 have s48:Sg1 48:=by unfold Sg1;decide +kernel
 have sB : ∀ c ∈ B,Sg1 c:=fun c hc=>sg c (bs c hc)
 have a0:=Int.emod_nonneg (v+(k:Int)*st) (show (93:Int)≠0 by decide)
 have a1:=Int.emod_lt_of_pos (v+(k:Int)*st) (show (0:Int) < 93 by decide)
 intro c hc
 unfold nmOf at hc
 split at hc
 ·exact sB c (List.mem_of_mem_take hc)
 ·split at hc
  ·rcases List.mem_append.mp hc with hc | hc
   ·rcases List.mem_append.mp hc with hc | hc
    ·exact sB c (List.mem_of_mem_take hc)
    ·rw [List.mem_singleton.mp hc,List.getD_eq_getElem?_getD,List.getElem?_eq_getElem (by omega)]
     exact sg _ (List.getElem_mem _)
   ·exact sB c (List.mem_of_mem_take (List.mem_of_mem_drop hc))
  ·rcases List.mem_append.mp hc with hc | hc
   ·exact sB c (List.mem_of_mem_take hc)
   ·rw [List.mem_singleton.mp hc];exact s48
include hS hB up t0 t1 in
theorem nm_unlike {i j:Nat} (hij:i < j) (hj:j < 12):nmOf way mn sz st v S B i≠nmOf way mn sz st v S B j:=by
 intro e
 unfold nmOf at e
 split at e
 ·have:=congrArg List.length e
  rw [List.length_take,List.length_take,hB] at this;omega
 ·split at e
  ·rw [List.append_assoc,List.append_assoc] at e
   have e2:=(List.cons.injEq .. ▸ List.append_cancel_left e:_∧_).1
   have a0:=Int.emod_nonneg (v+(i:Int)*st) (show (93:Int)≠0 by decide)
   have a1:=Int.emod_lt_of_pos (v+(i:Int)*st) (show (0:Int) < 93 by decide)
   have b0:=Int.emod_nonneg (v+(j:Int)*st) (show (93:Int)≠0 by decide)
   have b1:=Int.emod_lt_of_pos (v+(j:Int)*st) (show (0:Int) < 93 by decide)
   have ne:(v+(i:Int)*st) % 93≠(v+(j:Int)*st) % 93:=by
    obtain ⟨d,rfl⟩ : ∃ d:Nat,j=i+d:=⟨j - i,by omega⟩
    have ed:((i+d:Nat):Int)*st=(i:Int)*st+(d:Int)*st:=by rw [Int.natCast_add,Int.add_mul]
    have d1:1*1≤(d:Int)*st:=Int.mul_le_mul (by omega) t0 (by decide) (by omega)
    have d2:(d:Int)*st≤11*8:=Int.mul_le_mul (by omega) t1 (by omega) (by decide)
    rw [ed]
    omega
   generalize (v+(i:Int)*st) % 93=a at *
   generalize (v+(j:Int)*st) % 93=b at *
   rw [List.getD_eq_getElem?_getD,List.getElem?_eq_getElem (show a.toNat < S.length by omega),List.getD_eq_getElem?_getD,List.getElem?_eq_getElem (show b.toNat < S.length by omega)] at e2
   have e3:S[a.toNat]'(by omega)=S[b.toNat]'(by omega):=e2
   have pw:=List.pairwise_iff_getElem.mp up
   rcases Nat.lt_trichotomy a.toNat b.toNat with h | h | h
   ·have:=pw a.toNat b.toNat (by omega) (by omega) h;omega
   ·omega
   ·have:=pw b.toNat a.toNat (by omega) (by omega) h;omega
  ·have:=congrArg List.length e
   simp only [List.length_append,List.length_take,List.length_cons,List.length_nil,hB] at this
   omega
end
theorem ok_law_near_names {f:Addr} {fd:FuncData} (F:Fun K "_law_near_names" "_law_near_names" s_law_near_names f fd) (B:Blt mg) (C_law_pick:Has P w K mg base "_law_pick" 1 ["_law_cell", "_law_salt", "_law_many"] (sp_law_pick K)) (C_law_all_signs:Has P w K mg base "_law_all_signs" 1 [] (sp_law_all_signs K)):FnOk P w K mg base CX0 2 f fd ["_law_cell", "_law_many"] (sp_law_near_names K):=by classical
 refine F.ok sc_law_near_names (fun vs H Q E h=>?_) (fun cdv A outer s H vs Q E hr h=>?_)
 ·obtain ⟨c,n,rfl,h1,h2,q⟩:=h
  rfl
 obtain ⟨c,n,rfl,h1,h2,q⟩:=h
 refine ⟨_,pss_cons (ps_set (i:=2) sc_law_near_names.nd rfl (Or.inr rfl) (pe_slice sl_str (pe_callH0 C_law_all_signs hr rfl) (po_some (pe_int)) (po_none)))
  (pss_cons (ps_set (i:=3) sc_law_near_names.nd rfl (Or.inl rfl) (pe_bm PySem.F.plainAttrs_str PySem.F.slot_str_join PySem.F.type_str_join mt_joinT (pe_strT (l:=[]) (by decide +kernel)) (pa_cons (pe_comp (cl:=[("_law_signs", s.heap.objs.size+1+1),("_law_cell", s.heap.objs.size+1+0)]) (fr:=["_law_cell", "_law_signs"]) (is:=[0,2]) rfl rfl ⟨rfl,⟨rfl,trivial⟩⟩ rfl ⟨⟨rfl,rfl,Or.inl rfl⟩,⟨⟨rfl,rfl,Or.inl rfl⟩,trivial⟩⟩ (by decide) (by decide +kernel) rfl (by decide +kernel) rfl (pi_range1 rfl B.z_range (pa_cons (pe_int) (pa_nil))) (fun _ _ _ _=>pifs_nil) (fun _ _ _ _=>pe_ix ix_str (pv 2) (pe_callH C_law_pick hr rfl (pa_cons (pv 1) (pa_cons (pe_op op_add (pe_int) (pv 0)) (pa_cons (pe_int) (pa_nil))))) (fun _ _=>rfl))) (pa_nil))))
  (pss_cons (ps_set (i:=4) sc_law_near_names.nd rfl (Or.inl rfl) (pe_callH C_law_pick hr rfl (pa_cons (pv 0) (pa_cons (pe_int) (pa_cons (pe_int) (pa_nil))))))
  (pss_cons (ps_set (i:=5) sc_law_near_names.nd rfl (Or.inl rfl) (pe_callH C_law_pick hr rfl (pa_cons (pv 0) (pa_cons (pe_int) (pa_cons (pe_int) (pa_nil))))))
  (pss_cons (ps_set (i:=6) sc_law_near_names.nd rfl (Or.inl rfl) (pe_op op_add (pe_int) (pe_callH C_law_pick hr rfl (pa_cons (pv 0) (pa_cons (pe_int) (pa_cons (pe_int) (pa_nil)))))))
  (pss_cons (ps_set (i:=7) sc_law_near_names.nd rfl (Or.inl rfl) (pe_ix ix_list (pe_lst (pa_cons (pe_int) (pa_cons (pe_int) (pa_cons (pe_int) (pa_cons (pe_int) (pa_cons (pe_int) (pa_cons (pe_int) (pa_nil)))))))) (pe_callH C_law_pick hr rfl (pa_cons (pv 0) (pa_cons (pe_int) (pa_cons (pe_int) (pa_nil))))) (fun _ _=>rfl)))
  (pss_cons (ps_set (i:=8) sc_law_near_names.nd rfl (Or.inl rfl) (pe_lst (pa_nil)))
  (pss_cons (ps_for PassesOwn.never rfl (pi_range1 rfl B.z_range (pa_cons (pv 1) (pa_nil))) (pg_name (i:=9) sc_law_near_names.nd rfl (Or.inl rfl)) (pss_cons (ps_set (i:=10) sc_law_near_names.nd rfl (Or.inl rfl) (pe_ix ix_str (pv 2) (pe_op op_modP (pe_op op_add (pe_callH C_law_pick hr rfl (pa_cons (pv 0) (pa_cons (pe_int) (pa_cons (pe_int) (pa_nil))))) (pe_op op_mulA (pv 9) (pv 7))) (pe_int)) (fun _ _=>rfl)))
  (pss_one (ps_if (pt_cmpR op_eq (pv 4) (pe_int) (nomark _)) (pss_one (ps_expr (pe_bm PySem.F.plainAttrs_list PySem.F.slot_list_append PySem.F.type_list_append mt_append (pv 8) (pa_cons (pe_slice sl_str (pv 3) (po_none) (po_some (pe_op op_add (pv 9) (pe_int)))) (pa_nil))))) (pss_one (ps_if (pt_cmpR op_eq (pv 4) (pe_int) (nomark _)) (pss_one (ps_expr (pe_bm PySem.F.plainAttrs_list PySem.F.slot_list_append PySem.F.type_list_append mt_append (pv 8) (pa_cons (pe_op op_addS (pe_op op_addS (pe_slice sl_str (pv 3) (po_none) (po_some (pe_callBH (call_min2N rfl) B.z_min rfl bo_min (pa_cons (pv 5) (pa_cons (pe_op op_sub (pv 6) (pe_int)) (pa_nil)))))) (pv 10)) (pe_slice sl_str (pv 3) (po_some (pe_op op_add (pe_callBH (call_min2N rfl) B.z_min rfl bo_min (pa_cons (pv 5) (pa_cons (pe_op op_sub (pv 6) (pe_int)) (pa_nil)))) (pe_int))) (po_some (pv 6)))) (pa_nil))))) (pss_one (ps_expr (pe_bm PySem.F.plainAttrs_list PySem.F.slot_list_append PySem.F.type_list_append mt_append (pv 8) (pa_cons (pe_op op_addS (pe_slice sl_str (pv 3) (po_none) (po_some (pv 9))) (pe_strT (l:=[48]) (by decide +kernel))) (pa_nil)))))))))))
  (pss_cons (ps_set (i:=11) sc_law_near_names.nd rfl (Or.inl rfl) (pe_callH C_law_pick hr rfl (pa_cons (pv 0) (pa_cons (pe_int) (pa_cons (pv 1) (pa_nil))))))
  (pss_one (ps_ret (pe_op op_cat (pe_slice sl_list (pv 8) (po_some (pv 11)) (po_none)) (pe_slice sl_list (pv 8) (po_none) (po_some (pv 11)))))))))))))),?_⟩
 walk_at "st"
 walk_at "rd"
 rename_i l hl al pl bl
 have hd:(l.drop (Int.toNat 1)).length=93:=by rw [List.length_drop,hl];rfl
 have sg1 : ∀ c ∈ l.drop (Int.toNat 1),Sg1 c:=fun c hc=>(al c (List.mem_of_mem_drop hc)).elim (fun z=>absurd z (bl c hc)) id
 have pd:(l.drop (Int.toNat 1)).Pairwise (· < ·):=List.Pairwise.sublist (List.drop_sublist _ _) pl
 generalize l.drop (Int.toNat 1)=S at *
 clear al pl bl hl
 refine r_kCompR (by decide) (by decide) (small (by decide)) (fun i ys H'=>H'=H ∧ ∃ cs:List Nat,cs.length=i∧(∀ c ∈ cs,c ∈ S)∧ys=tsV (cs.map fun c=>[c])) ⟨rfl,[],rfl,(by intro c h;cases h),rfl⟩ (fun i ys H' _ zz=>by obtain ⟨_,cs,h,_,e⟩:=zz;rw [e,List.length_map,List.length_map];omega) ?_ ?_
 ·rintro i ys H' hi ⟨rfl,cs,l1,l2,rfl⟩
  walk_at "rd"
  rename_i h0' h1'
  refine nxC hi ⟨rfl,cs++[S.getD (pk c (70+(0+(i:Int))) 93).toNat 0],by rw [List.length_append,l1];rfl,fun c hc=>?_,?_⟩
  ·rcases List.mem_append.mp hc with hc | hc
   ·exact l2 c hc
   ·rw [List.mem_singleton.mp hc,List.getD_eq_getElem?_getD,List.getElem?_eq_getElem (by omega)];exact List.getElem_mem _
  ·unfold tsV
   rw [List.map_append,List.map_append];rfl
 ·rintro ys H' ⟨rfl,B,l1,l2,rfl⟩ p H2 g2 e2
  have lB:B.length=12:=l1
  walk_at "rd"
  refine r_joinT e2 (by rw [fl1,List.length_map];show B.length+B.length*0≤_;omega) ?_
  rw [show Lt (T [])=[] from rfl,jn_nil,fl1]
  walk_at "rd"
  rename_i w0 w1 a0 a1 z0 z1 p3 H3 g3 e3 s0 s1
  refine r_ixAll (SqL.of e3) s0 (by show _ < (6:Int);omega) fun y hy=>?_
  have hm:=List.mem_of_getElem? hy
  simp only [List.mem_cons,List.not_mem_nil,or_false] at hm
  have hx : ∃ st:Int,y = .int st∧1≤st∧st≤8:=by
   rcases hm with rfl | rfl | rfl | rfl | rfl | rfl
   all_goals exact ⟨_,rfl,by decide,by decide⟩
  obtain ⟨st,rfl,st1,st2⟩:=hx
  clear hm e3 hy
  refine r_name ?_
  refine r_seq (r_asg (r_lst (r_nil (r_kLstF (by decide) fun L hL=>?_))))
  generalize hway:pk c 83 3=way at *
  generalize hat:pk c 84 12=at0 at *
  generalize hsz:1+pk c 85 12=sz at *
  have z2:1≤sz∧sz≤12:=by omega
  obtain ⟨mn,hmn⟩ : ∃ mn:Int,mn=if sz - 1 < at0 then sz - 1 else at0:=⟨_,rfl⟩
  have mn0:0≤mn∧mn < sz:=by rw [hmn];split <;> omega
  walk_at "rd"
  refine r_kForR (by omega) (by omega) (fun i σ H'=>H'=upd H3 L (.lst (tsV ((List.range i).map (nmOf way mn sz st (pk c 87 93) S B)))) ∧ ∃ r1 r2:Option V,σ=[some (.int c),some (.int n),some (.str (T S)),some (.str (T B)),some (.int way),some (.int at0),some (.int sz),some (.int st),some (.ref L),r1,r2,none]) ⟨rfl,none,none,rfl⟩ ?_ ?_
  ·rintro i σ H4 hlt ⟨rfl,r1,r2,rfl⟩
   have il:(i:Int) < n:=by omega
   have nn:=Int.emod_nonneg (pk c 87 93+(i:Int)*st) (show (93:Int)≠0 by decide)
   have nn2:=Int.emod_lt_of_pos (pk c 87 93+(i:Int)*st) (show (0:Int) < 93 by decide)
   walk_at "rd"
   ·rename_i v0 v1 hc
    refine r_append upd_same (small1000 (by unfold tsV;rw [List.length_map,List.length_map,List.length_range];omega)) ?_
    rw [upd_upd]
    walk_at "rd"
    refine ⟨?_,_,_,rfl⟩
    have e:nmOf way mn sz st (pk c 87 93) S B i=B.take (0+(i:Int)+1).toNat:=by
     unfold nmOf;rw [if_pos hc,show (0+(i:Int)+1).toNat=i+1 by omega]
    rw [List.range_succ,List.map_append]
    unfold tsV
    rw [List.map_append,List.map_cons,List.map_cons,List.map_nil,List.map_nil,e]
   ·rename_i v0 v1 hc hc2 k1 hk1 k2 hk2
    refine r_append upd_same (small1000 (by unfold tsV;rw [List.length_map,List.length_map,List.length_range];omega)) ?_
    rw [upd_upd]
    walk_at "rd"
    refine ⟨?_,_,_,rfl⟩
    have e:nmOf way mn sz st (pk c 87 93) S B i=B.take k1.toNat++[S.getD ((pk c 87 93+(0+(i:Int))*st) % 93).toNat 0]++(B.take sz.toNat).drop (k2+1).toNat:=by
     unfold nmOf;rw [if_neg hc,if_pos hc2,show k1=mn by rw [hmn];split <;> omega,show k2=mn by rw [hmn];split <;> omega,show (0:Int)+(i:Int)=(i:Int) by omega]
    rw [List.range_succ,List.map_append]
    unfold tsV
    rw [List.map_append,List.map_cons,List.map_cons,List.map_nil,List.map_nil,e]
   ·rename_i v0 v1 hc hc2
    refine r_append upd_same (small1000 (by unfold tsV;rw [List.length_map,List.length_map,List.length_range];omega)) ?_
    rw [upd_upd]
    walk_at "rd"
    refine ⟨?_,_,_,rfl⟩
    have e:nmOf way mn sz st (pk c 87 93) S B i=B.take (0+(i:Int)).toNat++[48]:=by
     unfold nmOf;rw [if_neg hc,if_neg hc2,show (0+(i:Int)).toNat=i by omega]
    rw [List.range_succ,List.map_append]
    unfold tsV
    rw [List.map_append,List.map_cons,List.map_cons,List.map_nil,List.map_nil,e]
  ·rintro σ H4 ⟨rfl,r1,r2,rfl⟩
   walk_at "rd"
   rename_i t0 t1 p5 H5 g5 e5 p6 H6 g6 e6
   generalize pk c 88 n=tn at *
   have ll:(tsV ((List.range n.toNat).map (nmOf way mn sz st (pk c 87 93) S B))).length=n.toNat:=by unfold tsV;rw [List.length_map,List.length_map,List.length_range]
   rw [cut_drop t0 (by omega)] at e5
   rw [cut_take t0 (by omega)] at e6
   have okN:Nms ((List.range n.toNat).map (nmOf way mn sz st (pk c 87 93) S B)):=by
    refine ⟨fun t ht=>?_,fun t ht=>?_,?_⟩
    ·obtain ⟨k,hk,rfl⟩:=List.mem_map.mp ht
     exact nm_len lB mn0.1 mn0.2 z2.2 (by have:=List.mem_range.mp hk;omega)
    ·obtain ⟨k,hk,rfl⟩:=List.mem_map.mp ht
     exact nm_sgn hd sg1 l2
    ·unfold List.Nodup
     rw [List.pairwise_map]
     refine List.Pairwise.imp_of_mem ?_ List.pairwise_lt_range
     intro i j hi hj hij
     exact nm_unlike hd lB pd st1 st2 hij (by have:=List.mem_range.mp hj;omega)
   have lN:((List.range n.toNat).map (nmOf way mn sz st (pk c 87 93) S B)).length=n.toNat:=by rw [List.length_map,List.length_range]
   generalize (List.range n.toNat).map (nmOf way mn sz st (pk c 87 93) S B)=N at *
   have e5':H5 p5=some (.lst (tsV (N.drop tn.toNat))):=by rw [e5];unfold tsV;rw [List.map_drop]
   have e6':H6 p6=some (.lst (tsV (N.take tn.toNat))):=by rw [e6];unfold tsV;rw [List.map_take]
   have gA:Same H3 (upd H3 L (.lst (tsV N))):=same_upd (Same.refl _) hL
   refine r_cat (g6.at e5') e6' (small (by unfold tsV;rw [List.length_map,List.length_map,List.length_drop,List.length_take];omega)) fun p7 H7 g7 e7=>?_
   have pm:(N.drop tn.toNat++N.take tn.toNat).Perm N:=List.perm_append_comm.trans (by rw [List.take_append_drop])
   refine q p7 (N.drop tn.toNat++N.take tn.toNat) H7 (g2.trans (g3.trans (gA.trans (g5.trans (g6.trans g7))))) (by rw [pm.length_eq,lN];omega) ⟨fun t ht=>okN.len t (pm.mem_iff.mp ht),fun t ht=>okN.sgn t (pm.mem_iff.mp ht),pm.nodup_iff.mpr okN.nd⟩ ?_
   rw [e7];unfold tsV;rw [List.map_append]
theorem c_near {K:W.Frag} {c n:Int} {H:Hp} {Q:VK} {E:XK} (h1:1≤n) (h2:n≤12) (q : ∀ p ns H',Same H H'→(ns.length:Int)=n→Nms ns→H' p=some (.lst (tsV ns))→Q (.ref p) H'):sp_law_near_names K ([.int c,.int n]++[]) H Q E:=⟨c,n,rfl,h1,h2,q⟩
local macro_rules | `(tactic| walk_at "rdc")=>`(tactic| ((with_reducible refine' c_pick ?h1 ?h2 ?_);(case h1=>omega);(case h2=>omega);intro v' h0' h1'))
def SpecC (H:Hp) (p L:Addr) (wd:Int) (f:Nat) (x:Str) (st:Bool):Prop:=H p=some (.tup [.str "choice", .ref L,.int wd,.str (T [f]),.str x,.bl st])
structure WdC (wd:Int) (f:Nat) (x:Str):Prop where
 wd1:0≤wd
 wd2:wd≤40
 f:Sgn f
 x:Side x
def sp_law_choice_spec (K:W.Frag):Sp:=fun vs H Q _=>∃ (c o:Int),vs=[.int c,.int o,.int 0] ∧ ∀ p L ns H' wd f x st,Same H H'→Nms ns→1≤ns.length→ns.length≤12→WdC wd f x→SpecC H' p L wd f x st→H' L=some (.lst (tsV ns))→Q (.ref p) H'
theorem ok_law_choice_spec {f:Addr} {fd:FuncData} (F:Fun K "_law_choice_spec" "_law_choice_spec" s_law_choice_spec f fd) (B:Blt mg) (C_law_near_names:Has P w K mg base "_law_near_names" 2 ["_law_cell", "_law_many"] (sp_law_near_names K)) (C_law_pick:Has P w K mg base "_law_pick" 1 ["_law_cell", "_law_salt", "_law_many"] (sp_law_pick K)) (C_law_drawn_sign:Has P w K mg base "_law_drawn_sign" 2 ["_law_cell", "_law_salt"] (sp_law_drawn_sign K)):FnOk P w K mg base CX0 3 f fd ["_law_cell", "_law_other", "_law_small"] (sp_law_choice_spec K):=by classical
 refine F.ok sc_law_choice_spec (fun vs H Q E h=>?_) (fun cdv A outer s H vs Q E hr h=>?_)
 ·obtain ⟨c,o,rfl,q⟩:=h
  rfl
 obtain ⟨c,o,rfl,q⟩:=h
 refine ⟨_,pss_cons (ps_set (i:=3) sc_law_choice_spec.nd rfl (Or.inl rfl) (pe_callH C_law_near_names hr rfl (pa_cons (pv 0) (pa_cons (pe_op op_add (pe_int) (pe_callH C_law_pick hr rfl (pa_cons (pv 1) (pa_cons (pe_int) (pa_cons (pe_ix ix_list (pe_lst (pa_cons (pe_int) (pa_cons (pe_int) (pa_nil)))) (pv 2) (fun _ _=>rfl)) (pa_nil)))))) (pa_nil)))))
  (pss_cons (ps_set (i:=4) sc_law_choice_spec.nd rfl (Or.inl rfl) (pe_ix ix_list (pe_lst (pa_cons (pe_ix ix_str (pe_ix ix_list (pv 3) (pe_int) (fun _ _=>rfl)) (pe_un un_neg (pe_int)) (fun _ _=>rfl)) (pa_cons (pe_callH C_law_drawn_sign hr rfl (pa_cons (pv 1) (pa_cons (pe_int) (pa_nil)))) (pa_cons (pe_strT (l:=[48]) (by decide +kernel)) (pa_nil))))) (pe_callH C_law_pick hr rfl (pa_cons (pv 1) (pa_cons (pe_int) (pa_cons (pe_int) (pa_nil))))) (fun _ _=>rfl)))
  (pss_cons (ps_set (i:=5) sc_law_choice_spec.nd rfl (Or.inl rfl) (pe_ix ix_list (pe_lst (pa_cons (pe_int) (pa_cons (pe_op op_add (pe_int) (pe_callH C_law_pick hr rfl (pa_cons (pv 1) (pa_cons (pe_int) (pa_cons (pe_ix ix_list (pe_lst (pa_cons (pe_int) (pa_cons (pe_int) (pa_nil)))) (pv 2) (fun _ _=>rfl)) (pa_nil)))))) (pa_cons (pe_op op_add (pe_callBH call_lenT B.z_len rfl bo_len (pa_cons (pe_ix ix_list (pv 3) (pe_un un_neg (pe_int)) (fun _ _=>rfl)) (pa_nil))) (pe_int)) (pa_nil))))) (pe_callH C_law_pick hr rfl (pa_cons (pv 1) (pa_cons (pe_int) (pa_cons (pe_int) (pa_nil))))) (fun _ _=>rfl)))
  (pss_cons (ps_set (i:=6) sc_law_choice_spec.nd rfl (Or.inl rfl) (pe_ix ix_list (pe_lst (pa_cons (pe_str) (pa_cons (pe_str) (pa_cons (pe_str) (pa_nil))))) (pe_callH C_law_pick hr rfl (pa_cons (pv 1) (pa_cons (pe_int) (pa_cons (pe_int) (pa_nil))))) (fun _ _=>rfl)))
  (pss_one (ps_ret (pe_tup (pa_cons (pe_strT (l:=[99,104,111,105,99,101]) (by decide +kernel)) (pa_cons (pv 3) (pa_cons (pv 5) (pa_cons (pv 4) (pa_cons (pv 6) (pa_cons (pe_cmpR op_eq (pe_callH C_law_pick hr rfl (pa_cons (pv 1) (pa_cons (pe_int) (pa_cons (pe_int) (pa_nil))))) (pe_int) (nomark _)) (pa_nil))))))))))))),?_⟩
 walk_at "st"
 walk_at "rd"
 rename_i p1 H1 g1 e1 v1 a0 a1
 refine c_near (by omega) (by omega) fun L ns H2 g2 l2 ok e2=>?_
 have n1:1≤ns.length:=by omega
 have n12:ns.length≤12:=by omega
 have m0:ns.getD 0 [] ∈ ns:=by rw [List.getD_eq_getElem?_getD,List.getElem?_eq_getElem (by omega)];exact List.getElem_mem _
 have mL:ns.getD (ns.length - 1) [] ∈ ns:=by rw [List.getD_eq_getElem?_getD,List.getElem?_eq_getElem (by omega)];exact List.getElem_mem _
 have k0:=ok.len _ m0
 have kL:=ok.len _ mL
 have tl:(tsV ns).length=ns.length:=List.length_map _
 walk_at "rd"
 rw [show (Int.toNat 0)=0 from rfl]
 refine rTT_ixL (by omega) (by omega) ?_
 have sL:Sgn ((ns.getD 0 []).getD ((ns.getD 0 []).length - 1) 0):=.inr (ok.sgn _ m0 _ (by rw [List.getD_eq_getElem?_getD (l:=ns.getD 0 []),List.getElem?_eq_getElem (by omega)];exact List.getElem_mem _))
 walk_at "rd"
 rename_i c5 s5 p3 H3 g3 e3 v3 b0 b1
 refine r_ixAll (SqL.of e3) b0 (by show _ < (3:Int);omega) fun y hy=>?_
 have hm:=List.mem_of_getElem? hy
 simp only [List.mem_cons,List.not_mem_nil,or_false] at hm
 have hx : ∃ f:Nat,y = .str (T [f])∧Sgn f:=by
  rcases hm with rfl | rfl | rfl
  ·exact ⟨_,rfl,sL⟩
  ·exact ⟨_,rfl,s5⟩
  ·exact ⟨_,rfl,.inr (by decide +kernel)⟩
 obtain ⟨f,rfl,sf⟩:=hx
 clear hm e3 hy
 have e2':=g3.at e2
 walk_at "rd"
 rename_i p4 H4 g4 e4 v4 d0 d1 p5 H5 g5 e5 v5 f0 f1
 refine r_ixAll (SqL.of e5) f0 (by show _ < (3:Int);omega) fun y hy=>?_
 have hm:=List.mem_of_getElem? hy
 simp only [List.mem_cons,List.not_mem_nil,or_false] at hm
 have hx : ∃ wd:Int,y = .int wd∧0≤wd∧wd≤40:=by
  rcases hm with rfl | rfl | rfl
  ·exact ⟨_,rfl,by omega,by omega⟩
  ·exact ⟨_,rfl,by omega,by omega⟩
  ·exact ⟨_,rfl,by omega,by omega⟩
 obtain ⟨wd,rfl,w0,w1⟩:=hx
 clear hm e5 hy
 walk_at "rd"
 rename_i p6 H6 g6 e6 v6 h0 h1
 refine r_ixAll (SqL.of e6) h0 (by show _ < (3:Int);omega) fun y hy=>?_
 have hm:=List.mem_of_getElem? hy
 simp only [List.mem_cons,List.not_mem_nil,or_false] at hm
 have hx : ∃ y':Str,y = .str y'∧Side y':=by
  rcases hm with rfl | rfl | rfl
  ·exact ⟨_,rfl,.inl rfl⟩
  ·exact ⟨_,rfl,.inr (.inl rfl)⟩
  ·exact ⟨_,rfl,.inr (.inr rfl)⟩
 obtain ⟨y',rfl,hy'⟩:=hx
 clear hm e6 hy
 walk_at "rd"
 rename_i v7 i0 i1 p7 H7 g7 e7
 exact q _ L ns _ wd f y' _ (by walk_at "sm") ok n1 n12 ⟨w0,w1,sf,hy'⟩ e7 (g7.at (g6.at (g5.at (g4.at e2'))))
theorem core0_len {pl b:Int} {sn:Str} {z:Int} {m pt:Nat} (h2:2≤b) (hs:Style sn):((ncore pl b sn z m pt 0).length:Int)=1+(if 0 < pl then pl+1 else 0)+(if sn = "plus" ∨ sn = "blank" then 1 else 0):=by
 have f0:figs b.toNat 0=[48]:=by rw [figs_lt (by omega)];rfl
 have d0:dgs b.toNat pl.toNat 0=List.replicate pl.toNat 48++[48]:=by unfold dgs;rw [f0];rfl
 have dl:(dgs b.toNat pl.toNat 0).length=pl.toNat+1:=by rw [d0];simp
 have w0:whl b.toNat pl.toNat 0=[48]:=by
  unfold whl
  rw [dl,show pl.toNat+1 - pl.toNat=1 by omega,d0]
  cases pl.toNat with
  | zero=>rfl
  | succ n=>rw [List.replicate_succ];rfl
 have r0:(rst b.toNat pl.toNat 0).length=pl.toNat:=by unfold rst;rw [List.length_drop,dl];omega
 have g0:gr z.toNat m [48]=[48]:=by
  unfold gr
  rcases Nat.eq_zero_or_pos z.toNat with h | h
  ·rw [h,RJ_zero];rfl
  ·rw [RJ_le (show ([48]:List Nat).reverse.length≤z.toNat from h)];rfl
 have bl:((bdI 0 b pl pt z m).length:Int)=1+(if 0 < pl then pl+1 else 0):=by
  unfold bdI bdy
  rw [show (0:Int).toNat=0 from rfl,w0,g0]
  by_cases h:0 < pl
  ·rw [if_neg (by omega),if_pos h,List.length_append,List.length_append,r0]
   show (((1+1+pl.toNat:Nat)):Int)=_;omega
  ·rw [if_pos (by omega),if_neg h];rfl
 have sl:(((stL sn false).length:Nat):Int)+((stT sn false).length:Nat)=(if sn = "plus" ∨ sn = "blank" then 1 else 0):=by
  rcases hs with rfl | rfl | rfl | rfl | rfl <;> decide +kernel
 have e:ncore pl b sn z m pt 0=stL sn false++bdI 0 b pl pt z m++stT sn false:=rfl
 rw [e,List.length_append,List.length_append,Int.natCast_add,Int.natCast_add,bl,← sl]
 generalize (if 0 < pl then pl+1 else 0)=X
 omega
def shortN (pl:Int) (sn:Str):Int:=1+(if 0 < pl then pl+1 else 0)+(if sn = "plus" ∨ sn = "blank" then 1 else 0)
def sp_law_shortest (K:W.Frag):Sp:=fun vs H Q _=>(∃ (p:Addr) (fg pl b:Int) (sn:Str) (z:Int) (m pt:Nat) (wy:Str) (wd:Int) (f:Nat) (x:Str) (st:Bool),vs=[.ref p]∧SpecN H p fg pl b sn z m pt wy wd f x st∧NumS fg pl b sn z m pt wy wd f x ∧ ∀ H',Same H H'→Q (.int (shortN pl sn)) H') ∨
 (∃ (p:Addr) (sg:List Nat) (lo hi wd:Int) (f:Nat) (x:Str) (st:Bool),vs=[.ref p]∧SpecW H p sg lo hi wd f x st∧Q (.int lo) H) ∨
 (∃ (p L:Addr) (ns:List (List Nat)) (wd:Int) (f:Nat) (x:Str) (st:Bool),vs=[.ref p]∧SpecC H p L wd f x st∧H L=some (.lst (tsV ns))∧1≤ns.length∧ns.length≤12∧(∀ t ∈ ns,t.length≤12) ∧ ∀ (k:Int) (H':Hp),Same H H'→(∃ t ∈ ns,(t.length:Int)=k)→Q (.int k) H')
open PyProof.Rows in
theorem best_spec (f : Nat → Int) : ∀ k, argBest (fun i j => decide (f i < f j)) k ≤ k ∧ ∀ i, i ≤ k → f (argBest (fun i j => decide (f i < f j)) k) ≤ f i
  | 0 => ⟨Nat.le_refl _, fun i hi => by rw [show i = 0 by omega]; exact Int.le_refl _⟩
  | k + 1 => by
    obtain ⟨h1, h2⟩ := best_spec f k
    rw [argBest]
    split
    · rename_i hc
      have hc' := of_decide_eq_true hc
      refine ⟨Nat.le_refl _, fun i hi => ?_⟩
      rcases Nat.lt_or_ge i (k + 1) with q | q
      · have := h2 i (by omega); omega
      · rw [show i = k + 1 by omega]; exact Int.le_refl _
    · rename_i hc
      have hc' := fun q => hc (decide_eq_true q)
      refine ⟨by omega, fun i hi => ?_⟩
      rcases Nat.lt_or_ge i (k + 1) with q | q
      · exact h2 i (by omega)
      · rw [show i = k + 1 by omega]; exact Int.not_lt.mp hc'
theorem vals_int_at : ∀ {ks : List Int} {its : List Value}, Vals (ks.map V.int) its → ∀ i v, its[i]? = some v → ∃ t, v = Value.int (ks.getD i 0) t
  | [], _, .nil, i, v, e => by simp at e
  | _ :: _, _, .cons r rr, 0, v, e => by
    obtain ⟨t, rfl⟩ := r
    simp at e
    exact ⟨t, e.symm⟩
  | _ :: ks, _, .cons r rr, i + 1, v, e => by
    have e' : _ = some v := e
    rw [List.getElem?_cons_succ] at e'
    obtain ⟨t, h⟩ := vals_int_at rr i v e'
    exact ⟨t, by rw [List.getD_cons_succ]; exact h⟩
def rMinI (K:W.Frag):List V→Hp→VK→Prop:=fun xs H Q=>∃ p ks,xs=[.ref p]∧SqL K H p (ks.map V.int)∧ks≠[] ∧ ∀ k,k ∈ ks→(∀ u ∈ ks,k≤u)→Q (.int k) H
open PyProof.Rows in
theorem call_minI {X:Cx} (hc:X.calm=true):CallR X (.builtin "min") (rMinI X.K):=by
 intro pins s σ H xs us Q I r h
 obtain ⟨pp,ks,rfl,hq,hne,q⟩:=h
 obtain ⟨u,rfl,rx⟩:=vals1 r
 cases rx
 obtain ⟨its,rv,pl,hz⟩:=I.list hq
 have ln:its.length=ks.length:=by have:=rv.length;rw [List.length_map] at this;omega
 have pos0:0 < ks.length:=List.length_pos_iff.mpr hne
 refine call_min_walk (wpAny_pyIter_list pl.isList ?_)
 have nI:pp≠s.heap.objs.size:=fun e=>by
  obtain ⟨o,n,g,_⟩:=pl
  have:=Heap.lt_size g
  rw [e] at this;exact Nat.lt_irrefl _ this
 have W:=walks_as (P':=fun i v=>∃ t,v=Value.int (ks.getD i 0) t) (Walks.list (prog:=X.prog) (w:=X.w) (A:=X.A.in1) (I.ok.hd hc) s.heap.objs.size pp nI its.toArray) (fun i v e=>vals_int_at rv i v (by rw [← List.getElem?_toArray];exact e))
 have szs:its.toArray.size=ks.length:=by simp [ln]
 refine ⟨_,_,_,_,_,_,fun i j=>decide (ks.getD i 0 < ks.getD j 0),rfl,W,⟨⟨_,Heap.get?_push_size _ rfl,rfl,rfl⟩,?_⟩,fun b hb=>?_,by rw [szs];exact pos0,CmpOf.ints_lt (fun i=>ks.getD i 0) (fun _ _ z=>z),fun v h' tk pv keep=>?_⟩
 ·obtain ⟨o,n,g,r⟩:=pl.isList
  exact ⟨o,Heap.get?_push_of_some _ n,g,r⟩
 ·have lt:b < s.heap.objs.size+1:=by
   rcases List.mem_cons.mp hb with e | e
   ·rw [e];exact Nat.lt_succ_self _
   ·rw [List.mem_singleton.mp e]
    obtain ⟨o,g,_⟩:=pl.isList
    exact Nat.lt_succ_of_lt (Heap.lt_size g)
  exact Nat.lt_of_lt_of_le lt (Nat.le_of_eq (Array.size_push _).symm)
 ·obtain ⟨t,rfl⟩:=pv
  obtain ⟨c1,c2⟩:=best_spec (fun i=>ks.getD i 0) (its.toArray.size - 1)
  generalize argBest (fun i j=>decide (ks.getD i 0 < ks.getD j 0)) (its.toArray.size - 1)=i at c1 c2 ⊢
  have il:i < ks.length:=by omega
  have mem:ks.getD i 0 ∈ ks:=by rw [List.getD_eq_getElem?_getD,List.getElem?_eq_getElem il];exact List.getElem_mem il
  refine ⟨.int (ks.getD i 0),H,I.kept (t':=tk) (fun b o e=>keep b o (fun m=>?_) (Heap.get?_push_of_some _ e)),⟨t,rfl⟩,q _ mem fun u hu=>?_⟩
  ·rw [List.mem_singleton.mp m] at e
   exact Nat.lt_irrefl _ (Heap.lt_size e)
  ·obtain ⟨k,hk,rfl⟩:=List.mem_iff_getElem.mp hu
   have:=c2 k (by omega)
   rw [show ks.getD k 0=ks[k] by rw [List.getD_eq_getElem?_getD,List.getElem?_eq_getElem hk];rfl] at this
   exact this
theorem ok_law_shortest {f:Addr} {fd:FuncData} (F:Fun K "_law_shortest" "_law_shortest" s_law_shortest f fd) (B:Blt mg):FnOk P w K mg base CX0 1 f fd ["_law_spec"] (sp_law_shortest K):=by classical
 refine F.ok sc_law_shortest (fun vs H Q E h=>?_) (fun cdv A outer s H vs Q E hr h=>?_)
 ·obtain ⟨p,fg,pl,b,sn,z,m,pt,wy,wd,f,x,st,rfl,hp,ok,q⟩ | ⟨p,sg,lo,hi,wd,f,x,st,rfl,hp,q⟩ | ⟨p,L,ns,wd,f,x,st,rfl,hp,hL,n1,n12,nl,q⟩:=h
  all_goals rfl
 refine ⟨_,pss_cons (ps_if (pt_cmpR op_eq (pe_ix ix_tup (pv 0) (pe_int) (fun _ _=>rfl)) (pe_strT (l:=[110,117,109,98,101,114]) (by decide +kernel)) (nomark _)) (pss_one (ps_ret (pe_op op_add (pe_op op_add (pe_int) (pe_op op_mulA (pe_op op_add (pe_ix ix_tup (pv 0) (pe_int) (fun _ _=>rfl)) (pe_int)) (pe_callTy call_int1N rfl B.z_int bo_int (pa_cons (pe_cmpR op_gt (pe_ix ix_tup (pv 0) (pe_int) (fun _ _=>rfl)) (pe_int) (nomark _)) (pa_nil))))) (pe_callTy call_int1N rfl B.z_int bo_int (pa_cons (pe_cmpR op_in_seq (pe_ix ix_tup (pv 0) (pe_int) (fun _ _=>rfl)) (pe_tup (pa_cons (pe_str) (pa_cons (pe_strT (l:=[98,108,97,110,107]) (by decide +kernel)) (pa_nil)))) (by with_unfolding_all rfl)) (pa_nil)))))) (pss_nil))
  (pss_cons (ps_if (pt_cmpR op_eq (pe_ix ix_tup (pv 0) (pe_int) (fun _ _=>rfl)) (pe_strT (l:=[119,111,114,100]) (by decide +kernel)) (nomark _)) (pss_one (ps_ret (pe_ix ix_tup (pv 0) (pe_int) (fun _ _=>rfl)))) (pss_nil))
  (pss_one (ps_ret (pe_callBH (call_minI rfl) B.z_min rfl bo_min (pa_cons (pe_comp (cl:=[]) (fr:=[]) (is:=[]) rfl rfl trivial rfl trivial (by decide) (by decide +kernel) rfl (by decide +kernel) rfl (pi_list (pe_ix ix_tup (pv 0) (pe_int) (fun _ _=>rfl))) (fun _ _ _ _=>pifs_nil) (fun _ _ _ _=>pe_callBH call_lenT B.z_len rfl bo_len (pa_cons (pv 0) (pa_nil)))) (pa_nil)))))),?_⟩
 obtain ⟨p,fg,pl,b,sn,z,m,pt,wy,wd,f,x,st,rfl,hp,ok,q⟩ | ⟨p,sg,lo,hi,wd,f,x,st,rfl,hp,q⟩ | ⟨p,L,ns,wd,f,x,st,rfl,hp,hL,n1,n12,nl,q⟩:=h
 all_goals walk_at "st"
 ·unfold SpecN at hp
  have o3:=ok.pl1;have o4:=ok.pl2
  unfold shortN at q
  have iv : ∀ {p':Addr} {H':Hp} {Q':VK},H' p'=some (.tup [.str "plus", .str "blank"])→Q' (.bl (decide (sn = "plus" ∨ sn = "blank"))) H'→rIn K false (.str sn) (.ref p') H' Q':=fun {p' H' Q'} e k=>by
   refine ⟨p',_,rfl,.inr (SqT.of e),rfl,by decide +kernel,?_⟩
   rcases ok.sn with rfl | rfl | rfl | rfl | rfl
   ·rw [show (if false=true then !inV (.str "minus") [.str "plus", .str "blank"] else inV (.str "minus") [.str "plus", .str "blank"])=decide (("minus" : Str) = "plus" ∨ ("minus" : Str) = "blank") from by decide +kernel];exact k
   ·rw [show (if false=true then !inV (.str "plus") [.str "plus", .str "blank"] else inV (.str "plus") [.str "plus", .str "blank"])=decide (("plus" : Str) = "plus" ∨ ("plus" : Str) = "blank") from by decide +kernel];exact k
   ·rw [show (if false=true then !inV (.str "blank") [.str "plus", .str "blank"] else inV (.str "blank") [.str "plus", .str "blank"])=decide (("blank" : Str) = "plus" ∨ ("blank" : Str) = "blank") from by decide +kernel];exact k
   ·rw [show (if false=true then !inV (.str "brackets") [.str "plus", .str "blank"] else inV (.str "brackets") [.str "plus", .str "blank"])=decide (("brackets" : Str) = "plus" ∨ ("brackets" : Str) = "blank") from by decide +kernel];exact k
   ·rw [show (if false=true then !inV (.str "behind") [.str "plus", .str "blank"] else inV (.str "behind") [.str "plus", .str "blank"])=decide (("behind" : Str) = "plus" ∨ ("behind" : Str) = "blank") from by decide +kernel];exact k
  walk_at "rd"
  ·rename_i hc p1 H1 g1 e1
   have q':=q _ g1
   refine iv e1 ?_
   walk_at "rd"
   ·rename_i hs;rw [if_pos hc,if_pos hs] at q';rw [Int.mul_one];exact q'
   ·rename_i hs;rw [if_pos hc,if_neg hs] at q';rw [Int.mul_one];exact q'
  ·rename_i hc p1 H1 g1 e1
   have q':=q _ g1
   refine iv e1 ?_
   walk_at "rd"
   ·rename_i hs;rw [if_neg hc,if_pos hs] at q';rw [Int.mul_zero];exact q'
   ·rename_i hs;rw [if_neg hc,if_neg hs] at q';rw [Int.mul_zero];exact q'
 ·unfold SpecW at hp
  walk_at "rd"
  exact q
 ·unfold SpecC at hp
  walk_at "rd"
  have tl:(tsV ns).length=ns.length:=List.length_map _
  refine r_kCompL (SqL.of hL) (small (by omega)) (fun i ys H'=>H'=H∧ys=(((ns.take i).map fun t=>(t.length:Int)).map V.int)) ⟨rfl,rfl⟩ (fun i ys H' _ h=>⟨by rw [h.1];exact SqL.of hL,by rw [h.2,List.length_map,List.length_map,List.length_take];omega⟩) ?_ ?_
  ·rintro i y ys H' hy hi ⟨rfl,rfl⟩
   have il:i < ns.length:=by omega
   have ey:y = .str (T ns[i]):=by
    unfold tsV at hy
    rw [List.getElem?_map,List.getElem?_eq_getElem il] at hy
    exact (Option.some.inj hy).symm
   subst ey
   have tn:=nl _ (List.getElem_mem il)
   walk_at "rd"
   refine nxC hi ⟨rfl,?_⟩
   rw [List.take_succ_eq_append_getElem il,List.map_append,List.map_append];rfl
  ·rintro ys H1 ⟨rfl,rfl⟩ p2 H2 g2 e2
   rw [tl,List.take_length] at e2
   walk_at "rd"
   refine ⟨p2,ns.map fun t=>(t.length:Int),rfl,SqL.of e2,(by intro h;rw [List.map_eq_nil_iff] at h;rw [h] at n1;simp at n1),fun k hk _=>?_⟩
   obtain ⟨t,ht,rfl⟩:=List.mem_map.mp hk
   exact q _ _ g2 ⟨t,ht,rfl⟩
def rUp:V→List V→Hp→VK→Prop:=fun x xs H Q=>∃ z:Str,x = .str z∧xs=[]∧Builtin.Str.tooLong (Txt.upper z).length=false∧Q (.str (Txt.upper z)) H
theorem mt_upperT {X:Cx}:MtR X "str.upper" rUp:=by
 intro pins s σ H x xs v us Q I rx rv h
 obtain ⟨z,rfl,rfl,hz,q⟩:=h
 obtain ⟨t,rfl⟩:=rx
 cases rv
 exact SC.upper hz ⟨.str _,H,I.tok _,⟨_,rfl⟩,q⟩
def sp_law_sets (K:W.Frag):Sp:=fun vs H Q _=>vs=[] ∧ ∀ p p1 p2 p3 p4 H',Same H H'→H' p=some (.lst [.ref p1,.ref p2,.ref p3,.ref p4])→H' p1=some (.tup [.str "lower", .str lwrS])→H' p2=some (.tup [.str "upper", .str uppS])→H' p3=some (.tup [.str "figures", .str fgsS])→H' p4=some (.tup [.str "all", .str allS])→Q (.ref p) H'
local macro_rules | `(tactic| walk_at "rdc")=>`(tactic| (with_reducible refine c_signsE ?_))
theorem ok_law_sets {f:Addr} {fd:FuncData} (F:Fun K "_law_sets" "_law_sets" s_law_sets f fd) (B:Blt mg) (C_law_all_signs:Has P w K mg base "_law_all_signs" 1 [] (sp_law_all_signs K)):FnOk P w K mg base CX0 2 f fd [] (sp_law_sets K):=by classical
 refine F.ok sc_law_sets (fun vs H Q E h=>?_) (fun cdv A outer s H vs Q E hr h=>?_)
 ·obtain ⟨rfl,q⟩:=h
  rfl
 obtain ⟨rfl,q⟩:=h
 refine ⟨_,pss_cons (ps_set (i:=0) sc_law_sets.nd rfl (Or.inl rfl) (pe_str))
  (pss_one (ps_ret (pe_lst (pa_cons (pe_tup (pa_cons (pe_str) (pa_cons (pv 0) (pa_nil)))) (pa_cons (pe_tup (pa_cons (pe_str) (pa_cons (pe_bm0 PySem.F.plainAttrs_str PySem.F.slot_str_upper PySem.F.type_str_upper mt_upperT (pv 0)) (pa_nil)))) (pa_cons (pe_tup (pa_cons (pe_str) (pa_cons (pe_str) (pa_nil)))) (pa_cons (pe_tup (pa_cons (pe_str) (pa_cons (pe_slice sl_str (pe_callH0 C_law_all_signs hr rfl) (po_some (pe_int)) (po_none)) (pa_nil)))) (pa_nil)))))))),?_⟩
 walk_at "st"
 walk_at "rd"
 rename_i p1 H1 g1 e1
 refine ⟨_,rfl,rfl,by decide +kernel,?_⟩
 rw [show Txt.upper "abcdefghijklmnopqrstuvwxyz" = uppS from by decide +kernel]
 walk_at "rd"
 rename_i p2 H2 g2 e2 p3 H3 g3 e3 p4 H4 g4 e4 p5 H5 g5 e5
 have e4':H4 p4=some (.tup [.str "all", .str allS]):=by
  rw [e4]
  show some (HO.tup [.str "all", .str (T (Lt allS))])=_
  rw [T_Lt]
 exact q p5 p1 p2 p3 p4 H5 (g1.trans (g2.trans (g3.trans (g4.trans g5)))) e5 (g5.at (g4.at (g3.at (g2.at e1)))) (g5.at (g4.at (g3.at e2))) (g5.at (g4.at e3)) (g5.at e4')
theorem c_sets {K:W.Frag} {H:Hp} {Q:VK} {E:XK} (q : ∀ p p1 p2 p3 p4 H',Same H H'→H' p=some (.lst [.ref p1,.ref p2,.ref p3,.ref p4])→H' p1=some (.tup [.str "lower", .str lwrS])→H' p2=some (.tup [.str "upper", .str uppS])→H' p3=some (.tup [.str "figures", .str fgsS])→H' p4=some (.tup [.str "all", .str allS])→Q (.ref p) H'):sp_law_sets K ([]++[]) H Q E:=⟨rfl,q⟩
def swd (rs:List Nat):List Nat:=if rs=Lt lwrS then Lt "lower" else if rs=Lt uppS then Lt "upper" else if rs=Lt fgsS then Lt "figures" else if rs=Lt allS then Lt "all" else 61::rs
theorem swd_name {n v:Str} (h:KName n v):swd (Lt v)=Lt n:=by
 rcases h with ⟨rfl,rfl⟩ | ⟨rfl,rfl⟩ | ⟨rfl,rfl⟩ | ⟨rfl,rfl⟩ <;> decide +kernel
theorem swd_none {rs:List Nat} (h : ∀ n v,KName n v→rs≠Lt v):swd rs=61::rs:=by
 unfold swd
 rw [if_neg (h "lower" _ (.inl ⟨rfl,rfl⟩)),if_neg (h "upper" _ (.inr (.inl ⟨rfl,rfl⟩))),if_neg (h "figures" _ (.inr (.inr (.inl ⟨rfl,rfl⟩)))),if_neg (h "all" _ (.inr (.inr (.inr ⟨rfl,rfl⟩))))]
def KAt (j:Nat) (n v:Str):Prop:=(j=0∧n = "lower" ∧ v=lwrS)∨(j=1∧n = "upper" ∧ v=uppS)∨(j=2∧n = "figures" ∧ v=fgsS)∨(j=3∧n = "all" ∧ v=allS)
def sp_law_signs_word (K:W.Frag):Sp:=fun vs H Q _=>∃ (sg:List Nat) (b:Int),vs=[.str (T sg),.int b]∧sg.length≤200∧1≤(wo 32 sg).length∧Ris (wo 32 sg) ∧ ∀ w H',Same H H'→SgW w (wo 32 sg)→(b % 2=0→w=swd (wo 32 sg))→Q (.str (T w)) H'
theorem ok_law_signs_word {f:Addr} {fd:FuncData} (F:Fun K "_law_signs_word" "_law_signs_word" s_law_signs_word f fd) (B:Blt mg) (C_law_sets:Has P w K mg base "_law_sets" 2 [] (sp_law_sets K)):FnOkp P w K mg base CX0 3 f fd ["_law_signs", "_law_bits"] (sp_law_signs_word K):=by classical
 refine F.okp sc_law_signs_word (fun vs H Q E h=>?_) (fun cdv A outer s H vs Q E hr h=>?_)
 ·obtain ⟨sg,b,rfl,h1,h2,hris,q⟩:=h
  rfl
 obtain ⟨sg,b,rfl,h1,h2,hris,q⟩:=h
 refine ⟨_,pssq_cons (psq_set (i:=2) sc_law_signs_word.nd rfl (Or.inl rfl) (peq_rep (c:=32) rfl rfl (pv 0)))
  (pss_cons (ps_for PassesOwn.never rfl (pi_list (pe_callH0 C_law_sets hr rfl)) (pg_tup rfl (pgs_cons (pg_name (i:=3) sc_law_signs_word.nd rfl (Or.inl rfl)) (pgs_cons (pg_name (i:=4) sc_law_signs_word.nd rfl (Or.inl rfl)) (pgs_nil)))) (pss_one (ps_if (PW.pt (pw_and (pt_cmpR op_eq (pv 4) (pv 2) (nomark _)) (pw_and1 (pt_cmpR op_eq (pe_op op_modP (pv 1) (pe_int)) (pe_int) (nomark _))))) (pss_one (ps_ret (pv 3))) (pss_nil))))
  (pss_one (ps_ret (pe_op op_addS (pe_strT (l:=[61]) (by decide +kernel)) (pv 2))))),?_⟩
 walk_at "st"
 have l2:(wo 32 sg).length≤200:=Nat.le_trans (List.length_filter_le _ _) h1
 walk_at "rd"
 refine (show tVar 0 _ _ _ from r_var rfl ⟨sg,rfl,by omega,?_⟩)
 generalize wo 32 sg=rs at *
 walk_at "rd"
 refine c_sets fun p p1 p2 p3 p4 H1 g1 e0 e1 e2 e3 e4=>?_
 have fin : ∀ n v:Str,KName n v→v=T rs→Q (.str n) H1:=fun n v hk hv=>by
  have:=q (Lt n) H1 g1 (.inl ⟨n,v,hk,rfl,by rw [hv,Lt_T]⟩) (fun _=>by rw [show rs=Lt v by rw [hv,Lt_T],swd_name hk])
  rw [T_Lt] at this;exact this
 walk_at "rd"
 refine r_kForL (SqL.of e0) (fun i σ H'=>H'=H1∧(∀ j < i,∀ n v,KAt j n v→b % 2=0→rs≠Lt v) ∧ ∃ r3 r4:Option V,σ=[some (.str (T sg)),some (.int b),some (.str (T rs)),r3,r4]) ⟨rfl,(fun j hj=>absurd hj (Nat.not_lt_zero _)),none,none,rfl⟩ (fun i σ H' _ h=>by rw [h.1];exact SqL.of e0) ?_ ?_
 ·rintro i y σ H2 hy ⟨rfl,nj,r3,r4,rfl⟩
  have hx : ∃ (pp:Addr) (n v:Str),y = .ref pp∧KName n v∧KAt i n v∧H2 pp=some (.tup [.str n,.str v]):=by
   match i,hy with
   | 0,hy=>cases hy;exact ⟨_,_,_,rfl,.inl ⟨rfl,rfl⟩,.inl ⟨rfl,rfl,rfl⟩,e1⟩
   | 1,hy=>cases hy;exact ⟨_,_,_,rfl,.inr (.inl ⟨rfl,rfl⟩),.inr (.inl ⟨rfl,rfl,rfl⟩),e2⟩
   | 2,hy=>cases hy;exact ⟨_,_,_,rfl,.inr (.inr (.inl ⟨rfl,rfl⟩)),.inr (.inr (.inl ⟨rfl,rfl,rfl⟩)),e3⟩
   | 3,hy=>cases hy;exact ⟨_,_,_,rfl,.inr (.inr (.inr ⟨rfl,rfl⟩)),.inr (.inr (.inr ⟨rfl,rfl,rfl⟩)),e4⟩
   | (k+4),hy=>cases hy
  obtain ⟨pp,n,v,rfl,hk,ha,ep⟩:=hx
  clear hy e1 e2 e3 e4 e0
  have step:(b % 2=0 → ¬ rs=Lt v) → ∀ j < i+1,∀ n v,KAt j n v→b % 2=0→rs≠Lt v:=fun h j hj n' v' ha' hb=>by
   rcases Nat.lt_or_ge j i with hlt | hge
   ·exact nj j hlt n' v' ha' hb
   ·have:j=i:=by omega
    subst this
    have:v'=v:=by
     rcases ha with ⟨h1,_,rfl⟩ | ⟨h1,_,rfl⟩ | ⟨h1,_,rfl⟩ | ⟨h1,_,rfl⟩ <;> rcases ha' with ⟨h2,_,rfl⟩ | ⟨h2,_,rfl⟩ | ⟨h2,_,rfl⟩ | ⟨h2,_,rfl⟩ <;> first | rfl | omega
    rw [this];exact h hb
  walk_at "rd"
  ·rename_i c1 c2;exact fin n v hk c1
  ·rename_i c1 c2
   exact ⟨rfl,step fun h _=>c2 h,_,_,rfl⟩
  ·rename_i c1
   exact ⟨rfl,step fun _ h=>c1 (by rw [h,T_Lt]),_,_,rfl⟩
 ·rintro σ H2 ⟨rfl,nj,r3,r4,rfl⟩
  walk_at "rd"
  refine q (61::rs) _ g1 (.inr ⟨rfl,h2,l2,hris⟩) fun hb=>(swd_none fun n v hk=>?_).symm
  rcases hk with ⟨h3,h4⟩ | ⟨h3,h4⟩ | ⟨h3,h4⟩ | ⟨h3,h4⟩
  ·exact nj 0 (by show 0 < 4;decide) n v (.inl ⟨rfl,h3,h4⟩) hb
  ·exact nj 1 (by show 1 < 4;decide) n v (.inr (.inl ⟨rfl,h3,h4⟩)) hb
  ·exact nj 2 (by show 2 < 4;decide) n v (.inr (.inr (.inl ⟨rfl,h3,h4⟩))) hb
  ·exact nj 3 (by show 3 < 4;decide) n v (.inr (.inr (.inr ⟨rfl,h3,h4⟩))) hb
local macro_rules | `(tactic| walk_at "rdq")=>`(tactic| repeat ((fail_if_success (with_reducible refine r_seq ?_));walk_at "rd1"))
theorem r_slT {K:W.Frag} {H:Hp} {Q:VK} {a:Addr} {xs:List V} {lo hi:Option Int} {n:Nat} (h:H a=some (.tup xs)) (hn:xs.length=n) (hw : ¬ (HT.sIx n 0 lo=0∧HT.sIx n n hi=n)) (q : ∀ p H',Same H H'→H' p=some (.tup (cutV xs lo hi))→Q (.ref p) H'):rSlT K (.ref a) lo hi H Q:=⟨a,xs,rfl,SqT.of h,by rw [hn];exact hw,fun p hp=>q p _ (same_new hp _) upd_same⟩
theorem r_catT {K:W.Frag} {H:Hp} {Q:VK} {a b:Addr} {x y:V} {xs ys:List V} (h1:H a=some (.tup (x::xs))) (h2:H b=some (.tup (y::ys))) (hz:xs.length+ys.length≤900) (q : ∀ p H',Same H H'→H' p=some (.tup (x::xs++y::ys))→Q (.ref p) H'):rCatT K (.ref a) (.ref b) H Q:=
 ⟨a,b,_,_,rfl,rfl,SqT.of h1,SqT.of h2,(by intro h;cases h),small (by rw [List.length_cons,List.length_cons];omega),(fun h=>by cases h),fun _ p n=>q p _ (same_upd (Same.refl _) n) upd_same⟩
theorem sgn_ge {c:Nat} (h:Sgn c):32≤c:=by
 rcases h with rfl | h
 ·decide
 ·exact (show ∀ c ∈ Lt allS,32≤c by decide +kernel) c h
theorem sgd_ne {sg : List Nat} (h : SgD sg) (n : sg ≠ [32]) : 1 ≤ (wo 32 sg).length := by
  match sg, h, n with
  | [], h, _ => exact absurd h.s1 (by decide)
  | [c], h, n =>
    have hc : c ≠ 32 := fun e => n (by rw [e])
    exact List.length_pos_of_mem (a := c) (List.mem_filter.mpr ⟨List.mem_cons_self .., by simpa using hc⟩)
  | c :: d :: r, h, _ =>
    have hc := sgn_ge (h.sgn c (List.mem_cons_self ..))
    have lt : c < d := (List.pairwise_cons.mp h.up).1 d (List.mem_cons_self ..)
    have hd : d ≠ 32 := by omega
    exact List.length_pos_of_mem (a := d) (List.mem_filter.mpr ⟨List.mem_cons_of_mem _ (List.mem_cons_self ..), by simpa using hd⟩)
structure SgE (sg:List Nat):Prop where
 d:SgD sg
 ne:1≤(wo 32 sg).length
def SgB (l:List Nat):Prop:=(1≤l.length∧l.length≤200)∧l.Pairwise (· < ·)∧(∀ c ∈ l,c=32∨c ∈ Lt allS)∧1≤(wo 32 l).length
instance (l:List Nat):Decidable (SgB l):=by unfold SgB;infer_instance
theorem SgB.e {l:List Nat} (h:SgB l):SgE l:=⟨⟨h.1.1,h.1.2,h.2.1,h.2.2.1⟩,h.2.2.2⟩
theorem set_ok {n v:Str} (h:KName n v) {k:Int} (h0:0≤k) (h1:k < 2):SgE (List.replicate k.toNat 32++Lt v):=by
 have hk:k.toNat=0∨k.toNat=1:=by omega
 rcases hk with e | e <;> rw [e] <;> refine SgB.e ?_ <;> rcases h with ⟨_,rfl⟩ | ⟨_,rfl⟩ | ⟨_,rfl⟩ | ⟨_,rfl⟩ <;> decide +kernel
def Cl (bits:Int) (c:Bool) (e:Prop):Prop:=(c=false→e)∧(bits=0→c=true → ¬ e)
theorem Cl.dec {c:Bool} {e:Prop} [Decidable e] (h:Cl 0 c e):c = !decide e:=by
 cases c with
 | true=>rw [decide_eq_false (h.2 rfl rfl)];rfl
 | false=>rw [decide_eq_true (h.1 rfl)];rfl
def WN (fg pl b:Int) (sn:Str) (z:Int) (m pt:Nat) (wy:Str) (bits:Int) (ws:List (List Nat)):Prop:=∃ cb cg cp cw,Cl bits cb (b=10)∧Cl bits cg (sn = "minus")∧Cl bits cp (pt=46)∧Cl bits cw (wy = "near")∧ws=k_number::dw fg::dw pl::wBase b cb (wSign sn cg (wGroups z m (wPoint pt cp (wWay wy cw []))))
def WW (sg:List Nat) (lo hi:Int) (bits:Int) (ws:List (List Nat)):Prop:=∃ w,SgW w (wo 32 sg)∧(bits=0→w=swd (wo 32 sg))∧ws=k_word::w::dw lo::dw hi::opt (decide (32 ∈ sg)) [k_blank]
def WC (ns:List (List Nat)) (bits:Int) (ws:List (List Nat)):Prop:=ws=k_choice::dw ns.length::ns
def SpAN (H:Hp) (p:Addr) (wd:Int) (f:Nat) (x:Str) (st:Bool) (W:Int→List (List Nat)→Prop) (d:Str):Prop:=∃ (fg pl b:Int) (sn:Str) (z:Int) (m pt:Nat) (wy:Str),SpecN H p fg pl b sn z m pt wy wd f x st∧NumS fg pl b sn z m pt wy wd f x∧Sg3 m pt f∧(st=true→shortN pl sn≤wd)∧W=WN fg pl b sn z m pt wy∧d = "right"
def SpAW (H:Hp) (p:Addr) (wd:Int) (f:Nat) (x:Str) (st:Bool) (W:Int→List (List Nat)→Prop) (d:Str):Prop:=∃ (sg:List Nat) (lo hi:Int),SpecW H p sg lo hi wd f x st∧SgE sg∧WdR lo hi wd f x∧(st=true→lo≤wd)∧W=WW sg lo hi∧d = "left"
def SpAC (H:Hp) (p:Addr) (wd:Int) (f:Nat) (x:Str) (st:Bool) (W:Int→List (List Nat)→Prop) (d:Str):Prop:=∃ (L:Addr) (ns:List (List Nat)),SpecC H p L wd f x st∧H L=some (.lst (tsV ns))∧Nms ns∧1≤ns.length∧ns.length≤12∧WdC wd f x∧(st=true → ∃ t ∈ ns,(t.length:Int)≤wd)∧W=WC ns∧d = "left"
def SpA (H:Hp) (p:Addr) (wd:Int) (f:Nat) (x:Str) (st:Bool) (W:Int→List (List Nat)→Prop) (d:Str):Prop:=SpAN H p wd f x st W d∨SpAW H p wd f x st W d∨SpAC H p wd f x st W d
theorem SpA.same {H H':Hp} {p:Addr} {wd:Int} {f:Nat} {x:Str} {st:Bool} {W:Int→List (List Nat)→Prop} {d:Str} (g:Same H H') (h:SpA H p wd f x st W d):SpA H' p wd f x st W d:=by
 rcases h with ⟨fg,pl,b,sn,z,m,pt,wy,a,r⟩ | ⟨sg,lo,hi,a,r⟩ | ⟨L,ns,a,b,r⟩
 ·exact .inl ⟨fg,pl,b,sn,z,m,pt,wy,g.at a,r⟩
 ·exact .inr (.inl ⟨sg,lo,hi,g.at a,r⟩)
 ·exact .inr (.inr ⟨L,ns,g.at a,g.at b,r⟩)
def sp_law_any_spec (K:PySem.W.Frag):Sp:=fun vs H Q _=>∃ (c o k:Int),vs=[.int c,.int o,.int k]∧0≤k∧k < 3 ∧ ∀ p H' wd f x st W d,Same H H'→SpA H' p wd f x st W d→Q (.ref p) H'
theorem ok_law_any_spec {f:Addr} {fd:FuncData} (F:Fun K "_law_any_spec" "_law_any_spec" s_law_any_spec f fd) (B:Blt mg) (C_law_number_spec:Has P w K mg base "_law_number_spec" 3 ["_law_cell", "_law_other", "_law_small"] (sp_law_number_spec K)) (C_law_word_spec:Has P w K mg base "_law_word_spec" 3 ["_law_cell", "_law_other", "_law_small"] (sp_law_word_spec K)) (C_law_choice_spec:Has P w K mg base "_law_choice_spec" 3 ["_law_cell", "_law_other", "_law_small"] (sp_law_choice_spec K)) (C_law_pick:Has P w K mg base "_law_pick" 1 ["_law_cell", "_law_salt", "_law_many"] (sp_law_pick K)) (C_law_shortest:Has P w K mg base "_law_shortest" 1 ["_law_spec"] (sp_law_shortest K)) (C_law_sets:Has P w K mg base "_law_sets" 2 [] (sp_law_sets K)):FnOk P w K mg base CX0 4 f fd ["_law_cell", "_law_other", "_law_sort"] (sp_law_any_spec K):=by classical
 refine F.ok sc_law_any_spec (fun vs H Q E h=>?_) (fun cdv A outer s H vs Q E hr h=>?_)
 ·obtain ⟨c,o,k,rfl,k0,k3,q⟩:=h
  rfl
 obtain ⟨c,o,k,rfl,k0,k3,q⟩:=h
 refine ⟨_,pss_cons (ps_set (i:=3) sc_law_any_spec.nd rfl (Or.inl rfl) (pe_callH C_law_number_spec hr rfl (pa_cons (pv 0) (pa_cons (pv 1) (pa_cons (pe_int) (pa_nil))))))
  (pss_cons (ps_if (pt_cmpR op_eq (pv 2) (pe_int) (nomark _)) (pss_cons (ps_set (i:=3) sc_law_any_spec.nd rfl (Or.inl rfl) (pe_callH C_law_word_spec hr rfl (pa_cons (pv 0) (pa_cons (pv 1) (pa_cons (pe_int) (pa_nil))))))
  (pss_cons (ps_set (i:=4) sc_law_any_spec.nd rfl (Or.inl rfl) (pe_ix ix_tup (pv 3) (pe_int) (fun _ _=>rfl)))
  (pss_cons (ps_if (PW.pt (pw_or (pt_cmpR op_eq (pe_callH C_law_pick hr rfl (pa_cons (pv 1) (pa_cons (pe_int) (pa_cons (pe_int) (pa_nil))))) (pe_int) (nomark _)) (pw_or1 (pt_cmpR op_eq (pv 4) (pe_strT (l:=[32]) (by decide +kernel)) (nomark _))))) (pss_one (ps_set (i:=4) sc_law_any_spec.nd rfl (Or.inl rfl) (pe_op op_addS (pe_op op_mulT (pe_strT (l:=[32]) (by decide +kernel)) (pe_callH C_law_pick hr rfl (pa_cons (pv 1) (pa_cons (pe_int) (pa_cons (pe_int) (pa_nil)))))) (pe_ix ix_tup (pe_ix ix_list (pe_callH0 C_law_sets hr rfl) (pe_callH C_law_pick hr rfl (pa_cons (pv 1) (pa_cons (pe_int) (pa_cons (pe_int) (pa_nil))))) (fun _ _=>rfl)) (pe_int) (fun _ _=>rfl))))) (pss_nil))
  (pss_one (ps_set (i:=3) sc_law_any_spec.nd rfl (Or.inl rfl) (pe_op op_catT (pe_tup (pa_cons (pe_strT (l:=[119,111,114,100]) (by decide +kernel)) (pa_cons (pv 4) (pa_nil)))) (pe_slice sl_tup (pv 3) (po_some (pe_int)) (po_none)))))))) (pss_nil))
  (pss_cons (ps_if (pt_cmpR op_eq (pv 2) (pe_int) (nomark _)) (pss_one (ps_set (i:=3) sc_law_any_spec.nd rfl (Or.inl rfl) (pe_callH C_law_choice_spec hr rfl (pa_cons (pv 0) (pa_cons (pv 1) (pa_cons (pe_int) (pa_nil))))))) (pss_nil))
  (pss_one (ps_ret (pe_op op_catT (pe_slice sl_tup (pv 3) (po_none) (po_some (pe_un un_neg (pe_int)))) (pe_tup (pa_cons (pe_and (pe_ix ix_tup (pv 3) (pe_un un_neg (pe_int)) (fun _ _=>rfl)) (pe_one (pe_cmpR op_le (pe_callH C_law_shortest hr rfl (pa_cons (pv 3) (pa_nil))) (pe_ix ix_tup (pv 3) (pe_un un_neg (pe_int)) (fun _ _=>rfl)) (nomark _)))) (pa_nil)))))))),?_⟩
 walk_at "st"
 have hk:k=0∨k=1∨k=2:=by omega
 rcases hk with rfl | rfl | rfl
 ·walk_at "rd"
  refine ⟨c,o,rfl,fun p H1 fg pl b sn z m pt wy wd f x st g1 ok sg hp=>?_⟩
  have hp0:=hp
  unfold SpecN at hp
  walk_at "rd"
  refine r_slT (n:=13) hp rfl (by decide) fun p2 H2 g2 e2=>?_
  have e2':H2 p2=some (.tup [.str "number", .int fg,.int pl,.int b,.str sn,.int z,.str (T [m]),.str (T [pt]),.str wy,.int wd,.str (T [f]),.str x]):=e2
  clear e2
  have hp2:=g2.at hp
  have hp02:SpecN H2 p fg pl b sn z m pt wy wd f x st:=g2.at hp0
  clear hp hp0
  have fin : ∀ (st':Bool) {p3:Addr} {H3:Hp},Same H2 H3→(st'=true→shortN pl sn≤wd)→H3 p3=some (.tup [.bl st'])→rCatT K (.ref p2) (.ref p3) H3 Q:=fun st' {p3 H3} g3 hs e3 =>
   ⟨p2,p3,_,_,rfl,rfl,SqT.of (g3.at e2'),SqT.of e3,(by intro h;cases h),small (by show 12+1≤1000;decide),(fun h=>by cases h),fun _ p4 n4=>q p4 _ wd f x st' _ _ (g1.trans (g2.trans (g3.trans (same_upd (Same.refl _) n4)))) (.inl ⟨fg,pl,b,sn,z,m,pt,wy,upd_same,ok,sg,hs,rfl,rfl⟩)⟩
  walk_at "rd"
  ·refine .inl ⟨p,fg,pl,b,sn,z,m,pt,wy,wd,f,x,st,rfl,hp02,ok,fun H3 g3=>?_⟩
   have hp3:=g3.at hp2
   walk_at "rd"
   rename_i p4 H4 g4 e4
   exact fin _ (g3.trans g4) (fun h=>of_decide_eq_true h) e4
  ·rename_i hc p4 H4 g4 e4
   exact fin _ g4 (fun h=>by first | cases h | (rw [hc] at h;cases h)) e4
 ·refine r_seqJ (fun σ' H'=>Same H H' ∧ ∃ p0,σ'=[some (.int c),some (.int o),some (.int 1),some (.ref p0),none]) (fun σ1 H1 h=>?_) (fun R hR=>?_)
  ·obtain ⟨g1,p0,rfl⟩:=h
   refine r_seqJ (fun σ' H'=>∃ p sg lo hi wd f x st,∃ s4:Option V,Same H H'∧SgE sg∧WdR lo hi wd f x∧SpecW H' p sg lo hi wd f x st∧σ'=[some (.int c),some (.int o),some (.int 1),some (.ref p),s4]) (fun σ2 H2 h=>?_) (fun R hR=>?_)
   ·obtain ⟨p,sg,lo,hi,wd,f,x,st,s4,g2,se,wr,hp,rfl⟩:=h
    have hp0:=hp
    unfold SpecW at hp
    walk_at "rd"
    refine r_slT (n:=8) hp rfl (by decide) fun p3 H3 g3 e3=>?_
    have e3':H3 p3=some (.tup [.str "word", .str (T sg),.int lo,.int hi,.int wd,.str (T [f]),.str x]):=e3
    clear e3
    have hp3:=g3.at hp
    have hp03:SpecW H3 p sg lo hi wd f x st:=g3.at hp0
    clear hp hp0
    have fin : ∀ (st':Bool) {p4:Addr} {H4:Hp},Same H3 H4→(st'=true→lo≤wd)→H4 p4=some (.tup [.bl st'])→rCatT K (.ref p3) (.ref p4) H4 Q:=fun st' {p4 H4} g4 hs e4 =>
     r_catT (g4.at e3') e4 (by show 6+0≤900;decide) fun p5 H5 g5 e5=>q p5 H5 wd f x st' _ _ (g2.trans (g3.trans (g4.trans g5))) (.inr (.inl ⟨sg,lo,hi,e5,se,wr,hs,rfl,rfl⟩))
    walk_at "rd"
    ·refine .inr (.inl ⟨p,sg,lo,hi,wd,f,x,st,rfl,hp03,?_⟩)
     walk_at "rd"
     rename_i p4 H4 g4 e4
     exact fin _ g4 (fun h=>of_decide_eq_true h) e4
    ·rename_i hc p4 H4 g4 e4
     exact fin _ g4 (fun h=>by first | cases h | (rw [hc] at h;cases h)) e4
   ·refine r_seq ?_
    walk_at "rdq"
    refine r_seqJ (fun σ' H'=>∃ p sg lo hi wd f x st,Same H H'∧SgD sg∧WdR lo hi wd f x∧SpecW H' p sg lo hi wd f x st∧σ'=[some (.int c),some (.int o),some (.int 1),some (.ref p),none]) (fun σ3 H3 h=>?_) (fun R3 hR3=>?_)
    ·obtain ⟨p,sg,lo,hi,wd,f,x,st,g3,sd,wr,hp,rfl⟩:=h
     unfold SpecW at hp
     refine r_seqJ (fun σ' H'=>H'=H3∧σ'=[some (.int c),some (.int o),some (.int 1),some (.ref p),some (.str (T sg))]) (fun σ4 H4 h=>?_) (fun R4 hR4=>?_)
     ·obtain ⟨rfl,rfl⟩:=h
      refine r_seqJ (fun σ' H'=>∃ sg',Same H4 H'∧SgE sg'∧σ'=[some (.int c),some (.int o),some (.int 1),some (.ref p),some (.str (T sg'))]) (fun σ5 H5 h=>?_) (fun R5 hR5=>?_)
      ·obtain ⟨sg',g5,se,rfl⟩:=h
       have hp5:=g5.at hp
       walk_at "rd"
       rename_i p6 H6 g6 e6
       refine r_slT (n:=8) (g6.at hp5) rfl (by decide) fun p7 H7 g7 e7=>?_
       have e7':H7 p7=some (.tup [.int lo,.int hi,.int wd,.str (T [f]),.str x,.bl st]):=e7
       refine r_catT (g7.at e6) e7' (by show 1+5≤900;decide) fun p8 H8 g8 e8=>?_
       walk_at "rd"
       exact hR _ _ ⟨p8,sg',lo,hi,wd,f,x,st,_,g3.trans (g5.trans (g6.trans (g7.trans g8))),se,wr,e8,rfl⟩
      ·walk_at "rd"
       rotate_left 2
       ·rename_i v0 h00 h10 c1 c2
        exact hR5 _ _ ⟨sg,Same.refl _,⟨sd,sgd_ne sd c2⟩,rfl⟩
       all_goals
        rename_i v2 h02 h12
        refine c_sets fun s0 s1 s2 s3 s4 H5 g5 e0 e1 e2 e3 e4=>?_
        walk_at "rd"
        rename_i v3 h03 h13
        refine r_ixAll (SqL.of e0) h03 (by show _ < (4:Int);omega) fun y hy=>?_
        have hm:=List.mem_of_getElem? hy
        simp only [List.mem_cons,List.not_mem_nil,or_false] at hm
        have hx : ∃ (pp:Addr) (n v:Str),y = .ref pp∧KName n v∧H5 pp=some (.tup [.str n,.str v]):=by
         rcases hm with rfl | rfl | rfl | rfl
         ·exact ⟨_,_,_,rfl,.inl ⟨rfl,rfl⟩,e1⟩
         ·exact ⟨_,_,_,rfl,.inr (.inl ⟨rfl,rfl⟩),e2⟩
         ·exact ⟨_,_,_,rfl,.inr (.inr (.inl ⟨rfl,rfl⟩)),e3⟩
         ·exact ⟨_,_,_,rfl,.inr (.inr (.inr ⟨rfl,rfl⟩)),e4⟩
        obtain ⟨pp,n,v,rfl,hk,ep⟩:=hx
        clear hm hy e0 e1 e2 e3 e4
        have so:=set_ok hk h02 h12
        walk_at "rd"
        refine rTS_add (by have:=so.d.s2;rw [List.length_append] at this;omega) ?_
        walk_at "rd"
        exact hR5 _ _ ⟨_,g5,so,rfl⟩
     ·walk_at "rd"
      exact hR4 _ _ ⟨rfl,rfl⟩
    ·walk_at "rd"
     refine ⟨c,o,rfl,fun p H3 sg lo hi wd f x st g3 sd wr hp=>?_⟩
     walk_at "rd"
     exact hR3 _ _ ⟨p,sg,lo,hi,wd,f,x,st,g1.trans g3,sd,wr,hp,rfl⟩
  ·walk_at "rd"
   refine ⟨c,o,rfl,fun p0 H0 _ _ _ _ _ _ _ _ _ _ _ _ g0 _ _ _=>?_⟩
   walk_at "rd"
   exact hR _ _ ⟨g0,p0,rfl⟩
 ·walk_at "rd"
  refine ⟨c,o,rfl,fun p0 H0 _ _ _ _ _ _ _ _ _ _ _ _ g0 _ _ _=>?_⟩
  walk_at "rd"
  refine ⟨c,o,rfl,fun p L ns H1 wd f x st g1 nm n1 n12 wc hp hL=>?_⟩
  have hp0:=hp
  unfold SpecC at hp
  walk_at "rd"
  refine r_slT (n:=6) hp rfl (by decide) fun p3 H3 g3 e3=>?_
  have e3':H3 p3=some (.tup [.str "choice", .ref L,.int wd,.str (T [f]),.str x]):=e3
  clear e3
  have hp3:=g3.at hp
  have hp03:SpecC H3 p L wd f x st:=g3.at hp0
  have hL3:=g3.at hL
  clear hp hp0
  have fin : ∀ (st':Bool) {p4:Addr} {H4:Hp},Same H3 H4→(st'=true → ∃ t ∈ ns,(t.length:Int)≤wd)→H4 p4=some (.tup [.bl st'])→rCatT K (.ref p3) (.ref p4) H4 Q:=fun st' {p4 H4} g4 hs e4 =>
   r_catT (g4.at e3') e4 (by show 4+0≤900;decide) fun p5 H5 g5 e5=>q p5 H5 wd f x st' _ _ (g0.trans (g1.trans (g3.trans (g4.trans g5)))) (.inr (.inr ⟨L,ns,e5,g5.at (g4.at hL3),nm,n1,n12,wc,hs,rfl,rfl⟩))
  walk_at "rd"
  ·refine .inr (.inr ⟨p,L,ns,wd,f,x,st,rfl,hp03,hL3,n1,n12,fun t ht=>(nm.len t ht).2,fun k H4 g4 hk=>?_⟩)
   have hp4:=g4.at hp3
   walk_at "rd"
   rename_i p5 H5 g5 e5
   obtain ⟨t,ht,ek⟩:=hk
   exact fin _ (g4.trans g5) (fun h=>⟨t,ht,by have:=of_decide_eq_true h;omega⟩) e5
  ·rename_i hc p4 H4 g4 e4
   exact fin _ g4 (fun h=>by first | cases h | (rw [hc] at h;cases h)) e4
theorem dw_lo {n:Int} (h0:0≤n) (h1:n≤40):dw n=(if n.toNat < 10 then [fc n.toNat] else [fc (n.toNat / 10),fc (n.toNat % 10)]):=by
 unfold dw
 split
 ·rename_i h;exact figs_lt h
 ·rename_i h
  rw [figs_ge (by decide) (by omega),figs_lt (show n.toNat / 10 < 10 by omega)];rfl
theorem str_dw {n:Int} (h0:0≤n) (h1:n≤40):Str.ofString (toString n)=T (dw n):=by
 rw [dw_lo h0 h1]
 obtain ⟨k,rfl⟩ : ∃ k:Nat,n=(k:Int):=⟨n.toNat,by omega⟩
 have all : ∀ k,k < 41→Str.ofString (toString ((k:Nat):Int))=T (if k < 10 then [fc k] else [fc (k / 10),fc (k % 10)]):=by decide +kernel
 rw [Int.toNat_natCast]
 exact all k (by omega)
def sp_law_sign_word (K:W.Frag):Sp:=fun vs H Q _=>∃ c:Nat,vs=[.str (T [c])]∧Q (.str (T (sw c))) H
theorem c_sword {K:W.Frag} {c:Nat} {H:Hp} {Q:VK} {E:XK} (q:Q (.str (T (sw c))) H):sp_law_sign_word K ([.str (T [c])]++[]) H Q E:=⟨c,rfl,q⟩
local macro_rules | `(tactic| walk_at "rdc")=>`(tactic| (with_reducible refine c_sword ?_))
def sp_law_text_is (K:W.Frag):Sp:=fun vs H Q _=>∃ x:Str,vs=[.str x,.str x]∧Q (.bl true) H
theorem c_textis {K:W.Frag} {x:Str} {H:Hp} {Q:VK} {E:XK} (q:Q (.bl true) H):sp_law_text_is K ([.str x,.str x]++[]) H Q E:=⟨x,rfl,q⟩
local macro_rules | `(tactic| walk_at "rdc")=>`(tactic| (with_reducible refine c_textis ?_))
theorem ok_law_sign_word {f:Addr} {fd:FuncData} (F:Fun K "_law_sign_word" "_law_sign_word" s_law_sign_word f fd) (B:Blt mg):FnOk P w K mg base CX0 1 f fd ["_law_sign"] (sp_law_sign_word K):=by
 refine F.ok sc_law_sign_word (fun vs H Q E h=>?_) (fun cdv A outer s H vs Q E hr h=>?_)
 ·obtain ⟨c,rfl,q⟩:=h
  rfl
 obtain ⟨c,rfl,q⟩:=h
 refine ⟨_,pss_cons (ps_if (pt_cmpR op_eq (pv 0) (pe_strT (l:=[32]) (by decide +kernel)) (nomark _)) (pss_one (ps_ret (pe_strT (l:=[98,108,97,110,107]) (by decide +kernel)))) (pss_nil))
  (pss_one (ps_ret (pv 0))),?_⟩
 walk_at "st"
 walk_at "rd"
 ·rename_i hc
  have c32:c=32:=by simpa using hc
  subst c32
  rw [show sw 32=[98,108,97,110,107] from by decide +kernel] at q
  exact q
 ·rename_i hc
  have c32:c≠32:=fun h=>hc (by rw [h])
  rw [show sw c=[c] from if_neg c32] at q
  exact q
theorem ok_law_text_is {f:Addr} {fd:FuncData} (F:Fun K "_law_text_is" "_law_text_is" s_law_text_is f fd) (B:Blt mg):FnOk P w K mg base CX0 1 f fd ["_law_found", "_law_due"] (sp_law_text_is K):=by
 refine F.ok sc_law_text_is (fun vs H Q E h=>?_) (fun cdv A outer s H vs Q E hr h=>?_)
 ·obtain ⟨x,rfl,q⟩:=h
  rfl
 obtain ⟨x,rfl,q⟩:=h
 refine ⟨_,pss_one (ps_ret (pe_and (pe_callBH call_isi B.z_isinstance rfl bo_isinstance (pa_cons (pv 0) (pa_cons (pe_bltn rfl B.z_str bo_str (v:=.ty "str") rfl) (pa_nil)))) (pe_one (pe_cmpR op_eq (pv 0) (pv 1) (nomark _))))),?_⟩
 walk_at "st"
 walk_at "rd"
 exact q
def rStrD:List V→Hp→VK→Prop:=fun xs H Q=>∃ i:Int,xs=[.int i]∧0≤i∧i≤40∧Q (.str (toString i)) H
theorem call_strD {X:Cx}:CallR X (.type "str") rStrD:=fun pins s σ H xs us Q I r ⟨i,e,h0,h1,q⟩=>call_str_int pins s σ H xs us Q I r ⟨i,e,by
 rcases Nat.eq_zero_or_pos i.natAbs with z | z
 ·rw [z];decide
 ·exact Nat.lt_of_lt_of_le ((Nat.log2_lt (Nat.ne_of_gt z)).mpr (show i.natAbs < 2 ^ 6 by omega)) (by decide),q⟩
theorem r_strD {i:Int} {H:Hp} {Q:VK} (h0:0≤i) (h1:i≤40) (q:Q (.str (T (dw i))) H):rStrD [.int i] H Q:=⟨i,rfl,h0,h1,by rw [str_dw h0 h1];exact q⟩
local macro_rules | `(tactic| walk_at "rdc")=>`(tactic| ((with_reducible refine' r_strD ?h0 ?h1 ?_);(case h0=>omega);(case h1=>omega)))
inductive Rw (H:Hp):List V→List (List Nat)→Prop
 | nil:Rw H [] []
 | cons {p:Addr} {t:List Nat} {xs vs:List V} {ws:List (List Nat)}:H p=some (.tup (.str (T t)::xs))→Rw H vs ws→Rw H (.ref p::vs) (t::ws)
theorem Rw.same {H H':Hp} (g:Same H H') : ∀ {vs:List V} {ws:List (List Nat)},Rw H vs ws→Rw H' vs ws
 | _,_,.nil=>.nil
 | _,_,.cons a t=>.cons (g.at a) (t.same g)
theorem Rw.app {H:Hp} : ∀ {vs us:List V} {ws ts:List (List Nat)},Rw H vs ws→Rw H us ts→Rw H (vs++us) (ws++ts)
 | _,_,_,_,.nil,h=>h
 | _,_,_,_,.cons a t,h=>.cons a (t.app h)
theorem Rw.len {H:Hp} : ∀ {vs:List V} {ws:List (List Nat)},Rw H vs ws→vs.length=ws.length
 | _,_,.nil=>rfl
 | _,_,.cons a t=>by rw [List.length_cons,List.length_cons,t.len]
def Rws (H:Hp) (L:Addr) (ws:List (List Nat)):Prop:=∃ vs,H L=some (.lst vs)∧Rw H vs ws
theorem Rws.same {H H':Hp} {L:Addr} {ws:List (List Nat)} (g:Same H H') (h:Rws H L ws):Rws H' L ws:=let ⟨vs,a,b⟩:=h;⟨vs,g.at a,b.same g⟩
theorem rws_add {H H':Hp} {L l:Addr} {ws ts:List (List Nat)} {us:List V} {Q:VK} (h:Rws H L ws) (g:Same H H') (e:H' l=some (.lst us)) (r:Rw H' us ts) (hz:ws.length+ts.length≤1000) (q : ∀ L2 H2,Same H' H2→Rws H2 L2 (ws++ts)→Q (.ref L2) H2):rCat (.ref L) (.ref l) H' Q:=by
 obtain ⟨vs,a,b⟩:=h
 exact r_cat (g.at a) e (small (by rw [b.len,r.len];exact hz)) fun p H2 g2 e2=>q p H2 g2 ⟨_,e2,((b.same g).app r).same g2⟩
theorem wo_up {sg:List Nat} (h:SgD sg):Ris (wo 32 sg):=by
 have up:(wo 32 sg).Pairwise (· < ·):=List.Pairwise.sublist List.filter_sublist h.up
 intro i hi
 rw [List.getD_eq_getElem?_getD,List.getElem?_eq_getElem (by omega),List.getD_eq_getElem?_getD,List.getElem?_eq_getElem hi]
 exact (List.pairwise_iff_getElem.mp up) i (i+1) (by omega) hi (by omega)
theorem rws_addN {H H':Hp} {L l:Addr} {ws ts:List (List Nat)} {us:List V} {Q:VK} (h:Rws H L ws) (g:Same H H') (e:H' l=some (.lst us)) (r:Rw H' us ts) (hz:ws.length+ts.length≤1000) (q : ∀ L2 vs2 H2,H' L2=none→Same H' H2→H2 L2=some (.lst vs2)→Rw H2 vs2 (ws++ts)→Q (.ref L2) H2):rCat (.ref L) (.ref l) H' Q:=by
 obtain ⟨vs,a,b⟩:=h
 exact ⟨L,l,vs,us,rfl,rfl,g.at a,e,small (by rw [b.len,r.len];exact hz),fun p hp=>q p _ _ hp (same_new hp _) upd_same (((b.same g).app r).same (same_new hp _))⟩
theorem Rw.keep {H H':Hp} (g : ∀ b xs,H b=some (.tup xs)→H' b=some (.tup xs)) : ∀ {vs:List V} {ws:List (List Nat)},Rw H vs ws→Rw H' vs ws
 | _,_,.nil=>.nil
 | _,_,.cons a t=>.cons (g _ _ a) (t.keep g)
def sp_law_first_rows (K:PySem.W.Frag):Sp:=fun vs H Q _=>∃ (p:Addr) (bits wd:Int) (f:Nat) (x:Str) (st:Bool) (W:Int→List (List Nat)→Prop) (d:Str),vs=[.ref p,.int bits]∧SpA H p wd f x st W d ∧ ∀ L H' ws,Same H H'→W bits ws→Rws H' L ws→Q (.ref L) H'
theorem ok_law_first_rows {f:Addr} {fd:FuncData} (F:Fun K "_law_first_rows" "_law_first_rows" s_law_first_rows f fd) (B:Blt mg) (C_law_signs_word:HasP P w K mg base "_law_signs_word" 3 ["_law_signs", "_law_bits"] (sp_law_signs_word K)) (C_law_sign_word:Has P w K mg base "_law_sign_word" 1 ["_law_sign"] (sp_law_sign_word K)):FnOk P w K mg base CX0 4 f fd ["_law_spec", "_law_bits"] (sp_law_first_rows K):=by classical
 refine F.ok sc_law_first_rows (fun vs H Q E h=>?_) (fun cdv A outer s H vs Q E hr h=>?_)
 ·obtain ⟨p,bits,wd,f,x,st,W,d,rfl,hA,q⟩:=h
  rfl
 obtain ⟨p,bits,wd,f,x,st,W,d,rfl,hA,q⟩:=h
 refine ⟨_,pss_cons (ps_if (pt_cmpR op_eq (pe_ix ix_tup (pv 0) (pe_int) (fun _ _=>rfl)) (pe_strT (l:=[119,111,114,100]) (by decide +kernel)) (nomark _)) (pss_cons (ps_set (i:=2) sc_law_first_rows.nd rfl (Or.inl rfl) (pe_lst (pa_cons (pe_tup (pa_cons (pe_strT (l:=[119,111,114,100]) (by decide +kernel)) (pa_cons (pe_str) (pa_cons (pe_int) (pa_cons (pe_int) (pa_nil)))))) (pa_cons (pe_tup (pa_cons (pe_callHp C_law_signs_word hr rfl (pap_cons (pe_ix ix_tup (pv 0) (pe_int) (fun _ _=>rfl)) (pap_one (pep_op op_fdivB (pv 1))))) (pa_cons (pe_str) (pa_cons (pe_int) (pa_cons (pe_int) (pa_nil)))))) (pa_nil)))))
  (pss_cons (ps_set (i:=2) sc_law_first_rows.nd rfl (Or.inl rfl) (pe_op op_cat (pv 2) (pe_lst (pa_cons (pe_tup (pa_cons (pe_callTy call_strD rfl B.z_str bo_str (pa_cons (pe_ix ix_tup (pv 0) (pe_int) (fun _ _=>rfl)) (pa_nil))) (pa_cons (pe_strT (l:=[110,117,109,98,101,114]) (by decide +kernel)) (pa_cons (pe_int) (pa_cons (pe_int) (pa_nil)))))) (pa_cons (pe_tup (pa_cons (pe_callTy call_strD rfl B.z_str bo_str (pa_cons (pe_ix ix_tup (pv 0) (pe_int) (fun _ _=>rfl)) (pa_nil))) (pa_cons (pe_strT (l:=[110,117,109,98,101,114]) (by decide +kernel)) (pa_cons (pe_ix ix_tup (pv 0) (pe_int) (fun _ _=>rfl)) (pa_cons (pe_int) (pa_nil)))))) (pa_nil))))))
  (pss_one (ps_ret (pe_op op_cat (pv 2) (pe_slice sl_list (pe_lst (pa_cons (pe_tup (pa_cons (pe_strT (l:=[98,108,97,110,107]) (by decide +kernel)) (pa_cons (pe_str) (pa_cons (pe_int) (pa_cons (pe_int) (pa_nil)))))) (pa_nil))) (po_none) (po_some (pe_callTy call_int1N rfl B.z_int bo_int (pa_cons (pe_cmpR op_inS (pe_strT (l:=[32]) (by decide +kernel)) (pe_ix ix_tup (pv 0) (pe_int) (fun _ _=>rfl)) (by with_unfolding_all rfl)) (pa_nil)))))))))) (pss_nil))
  (pss_cons (ps_if (pt_cmpR op_eq (pe_ix ix_tup (pv 0) (pe_int) (fun _ _=>rfl)) (pe_strT (l:=[99,104,111,105,99,101]) (by decide +kernel)) (nomark _)) (pss_cons (ps_set (i:=2) sc_law_first_rows.nd rfl (Or.inl rfl) (pe_lst (pa_cons (pe_tup (pa_cons (pe_strT (l:=[99,104,111,105,99,101]) (by decide +kernel)) (pa_cons (pe_str) (pa_cons (pe_int) (pa_cons (pe_int) (pa_nil)))))) (pa_cons (pe_tup (pa_cons (pe_callTy call_strD rfl B.z_str bo_str (pa_cons (pe_callBH call_lenN B.z_len rfl bo_len (pa_cons (pe_ix ix_tup (pv 0) (pe_int) (fun _ _=>rfl)) (pa_nil))) (pa_nil))) (pa_cons (pe_strT (l:=[110,117,109,98,101,114]) (by decide +kernel)) (pa_cons (pe_int) (pa_cons (pe_int) (pa_nil)))))) (pa_nil)))))
  (pss_one (ps_ret (pe_op op_cat (pv 2) (pe_comp (cl:=[]) (fr:=[]) (is:=[]) rfl rfl trivial rfl trivial (by decide) (by decide +kernel) rfl (by decide +kernel) rfl (pi_list (pe_ix ix_tup (pv 0) (pe_int) (fun _ _=>rfl))) (fun _ _ _ _=>pifs_nil) (fun _ _ _ _=>pe_tup (pa_cons (pv 0) (pa_cons (pe_str) (pa_cons (pe_int) (pa_cons (pe_int) (pa_nil))))))))))) (pss_nil))
  (pss_cons (ps_asg (pe_slice sl_tup (pv 0) (po_some (pe_int)) (po_some (pe_int))) (pg_tup rfl (pgs_cons (pg_name (i:=3) sc_law_first_rows.nd rfl (Or.inl rfl)) (pgs_cons (pg_name (i:=4) sc_law_first_rows.nd rfl (Or.inl rfl)) (pgs_cons (pg_name (i:=5) sc_law_first_rows.nd rfl (Or.inl rfl)) (pgs_cons (pg_name (i:=6) sc_law_first_rows.nd rfl (Or.inl rfl)) (pgs_cons (pg_name (i:=7) sc_law_first_rows.nd rfl (Or.inl rfl)) (pgs_cons (pg_name (i:=8) sc_law_first_rows.nd rfl (Or.inl rfl)) (pgs_cons (pg_name (i:=9) sc_law_first_rows.nd rfl (Or.inl rfl)) (pgs_cons (pg_name (i:=10) sc_law_first_rows.nd rfl (Or.inl rfl)) (pgs_nil)))))))))))
  (pss_cons (ps_set (i:=2) sc_law_first_rows.nd rfl (Or.inl rfl) (pe_lst (pa_cons (pe_tup (pa_cons (pe_strT (l:=[110,117,109,98,101,114]) (by decide +kernel)) (pa_cons (pe_str) (pa_cons (pe_int) (pa_cons (pe_int) (pa_nil)))))) (pa_cons (pe_tup (pa_cons (pe_callTy call_strD rfl B.z_str bo_str (pa_cons (pv 3) (pa_nil))) (pa_cons (pe_strT (l:=[110,117,109,98,101,114]) (by decide +kernel)) (pa_cons (pe_int) (pa_cons (pe_int) (pa_nil)))))) (pa_cons (pe_tup (pa_cons (pe_callTy call_strD rfl B.z_str bo_str (pa_cons (pv 4) (pa_nil))) (pa_cons (pe_strT (l:=[110,117,109,98,101,114]) (by decide +kernel)) (pa_cons (pe_int) (pa_cons (pe_int) (pa_nil)))))) (pa_nil))))))
  (pss_cons (ps_if (PW.pt (pw_or (pt_cmpR op_ne (pv 5) (pe_int) (nomark _)) (pw_or1 (pt_cmpR op_eq (pe_op op_modP (pv 1) (pe_int)) (pe_int) (nomark _))))) (pss_one (ps_set (i:=2) sc_law_first_rows.nd rfl (Or.inl rfl) (pe_op op_cat (pv 2) (pe_lst (pa_cons (pe_tup (pa_cons (pe_strT (l:=[98,97,115,101]) (by decide +kernel)) (pa_cons (pe_str) (pa_cons (pe_int) (pa_cons (pe_int) (pa_nil)))))) (pa_cons (pe_tup (pa_cons (pe_callTy call_strD rfl B.z_str bo_str (pa_cons (pv 5) (pa_nil))) (pa_cons (pe_strT (l:=[110,117,109,98,101,114]) (by decide +kernel)) (pa_cons (pe_int) (pa_cons (pe_int) (pa_nil)))))) (pa_nil))))))) (pss_nil))
  (pss_cons (ps_if (PW.pt (pw_or (pt_cmpR op_ne (pv 6) (pe_str) (nomark _)) (pw_or1 (pt_cmpR op_eq (pe_op op_modP (pe_op op_fdivB (pv 1) (pe_int)) (pe_int)) (pe_int) (nomark _))))) (pss_one (ps_set (i:=2) sc_law_first_rows.nd rfl (Or.inl rfl) (pe_op op_cat (pv 2) (pe_lst (pa_cons (pe_tup (pa_cons (pe_strT (l:=[115,105,103,110]) (by decide +kernel)) (pa_cons (pe_str) (pa_cons (pe_int) (pa_cons (pe_int) (pa_nil)))))) (pa_cons (pe_tup (pa_cons (pv 6) (pa_cons (pe_str) (pa_cons (pe_int) (pa_cons (pe_int) (pa_nil)))))) (pa_nil))))))) (pss_nil))
  (pss_cons (ps_if (pt_cmpR op_gt (pv 7) (pe_int) (nomark _)) (pss_cons (ps_set (i:=2) sc_law_first_rows.nd rfl (Or.inl rfl) (pe_op op_cat (pv 2) (pe_lst (pa_cons (pe_tup (pa_cons (pe_strT (l:=[103,114,111,117,112,115]) (by decide +kernel)) (pa_cons (pe_str) (pa_cons (pe_int) (pa_cons (pe_int) (pa_nil)))))) (pa_cons (pe_tup (pa_cons (pe_callTy call_strD rfl B.z_str bo_str (pa_cons (pv 7) (pa_nil))) (pa_cons (pe_strT (l:=[110,117,109,98,101,114]) (by decide +kernel)) (pa_cons (pe_int) (pa_cons (pe_int) (pa_nil)))))) (pa_nil))))))
  (pss_one (ps_expr (pe_bm PySem.F.plainAttrs_list PySem.F.slot_list_append PySem.F.type_list_append mt_append (pv 2) (pa_cons (pe_tup (pa_cons (pe_callH C_law_sign_word hr rfl (pa_cons (pv 8) (pa_nil))) (pa_cons (pe_strT (l:=[115,105,103,110]) (by decide +kernel)) (pa_cons (pe_int) (pa_cons (pe_int) (pa_nil)))))) (pa_nil)))))) (pss_nil))
  (pss_cons (ps_if (PW.pt (pw_or (pt_cmpR op_ne (pv 9) (pe_strT (l:=[46]) (by decide +kernel)) (nomark _)) (pw_or1 (pt_cmpR op_eq (pe_op op_modP (pe_op op_fdivB (pv 1) (pe_int)) (pe_int)) (pe_int) (nomark _))))) (pss_one (ps_set (i:=2) sc_law_first_rows.nd rfl (Or.inl rfl) (pe_op op_cat (pv 2) (pe_lst (pa_cons (pe_tup (pa_cons (pe_strT (l:=[112,111,105,110,116]) (by decide +kernel)) (pa_cons (pe_str) (pa_cons (pe_int) (pa_cons (pe_int) (pa_nil)))))) (pa_cons (pe_tup (pa_cons (pe_callH C_law_sign_word hr rfl (pa_cons (pv 9) (pa_nil))) (pa_cons (pe_strT (l:=[115,105,103,110]) (by decide +kernel)) (pa_cons (pe_int) (pa_cons (pe_int) (pa_nil)))))) (pa_nil))))))) (pss_nil))
  (pss_cons (ps_if (PW.pt (pw_or (pt_cmpR op_ne (pv 10) (pe_str) (nomark _)) (pw_or1 (pt_cmpR op_eq (pe_op op_modP (pe_op op_fdivB (pv 1) (pe_int)) (pe_int)) (pe_int) (nomark _))))) (pss_one (ps_set (i:=2) sc_law_first_rows.nd rfl (Or.inl rfl) (pe_op op_cat (pv 2) (pe_lst (pa_cons (pe_tup (pa_cons (pe_strT (l:=[119,97,121]) (by decide +kernel)) (pa_cons (pe_str) (pa_cons (pe_int) (pa_cons (pe_int) (pa_nil)))))) (pa_cons (pe_tup (pa_cons (pv 10) (pa_cons (pe_strT (l:=[119,97,121]) (by decide +kernel)) (pa_cons (pe_int) (pa_cons (pe_int) (pa_nil)))))) (pa_nil))))))) (pss_nil))
  (pss_one (ps_ret (pv 2))))))))))),?_⟩
 walk_at "st"
 rcases hA with ⟨fg,pl,b,sn,z,m,pt,wy,hp,ok,sg3,hs,rfl,rfl⟩ | ⟨sg,lo,hi,hp,se,wr,hs,rfl,rfl⟩ | ⟨L0,ns,hp,hL,nm,n1,n12,wc,hs,rfl,rfl⟩
 ·unfold SpecN at hp
  have o1:=ok.fg1;have o2:=ok.fg2;have o3:=ok.pl1;have o4:=ok.pl2;have o5:=ok.b1;have o6:=ok.b2;have o7:=ok.z1;have o8:=ok.z2
  refine r_seqJ (fun σ' H'=>H'=H∧σ'=[some (.ref p),some (.int bits),none,none,none,none,none,none,none,none,none]) (fun σ1 H1 h=>?_) (fun R hR=>?_)
  ·obtain ⟨rfl,rfl⟩:=h
   refine r_seqJ (fun σ' H'=>H'=H1∧σ'=[some (.ref p),some (.int bits),none,none,none,none,none,none,none,none,none]) (fun σ2 H2 h=>?_) (fun R hR=>?_)
   ·obtain ⟨rfl,rfl⟩:=h
    refine r_seqJ (fun σ' H'=>Same H2 H'∧σ'=[some (.ref p),some (.int bits),none,some (.int fg),some (.int pl),some (.int b),some (.str sn),some (.int z),some (.str (T [m])),some (.str (T [pt])),some (.str wy)]) (fun σ3 H3 h=>?_) (fun R hR=>?_)
    ·obtain ⟨g3,rfl⟩:=h
     refine r_seqJ (fun σ' H'=>∃ L,Same H2 H'∧σ'=[some (.ref p),some (.int bits),some (.ref L),some (.int fg),some (.int pl),some (.int b),some (.str sn),some (.int z),some (.str (T [m])),some (.str (T [pt])),some (.str wy)]∧Rws H' L [k_number,dw fg,dw pl]) (fun σ4 H4 h=>?_) (fun R hR=>?_)
     ·obtain ⟨L,g4,rfl,R4⟩:=h
      refine r_seqJ (fun σ' H'=>∃ L cb,Same H2 H'∧σ'=[some (.ref p),some (.int bits),some (.ref L),some (.int fg),some (.int pl),some (.int b),some (.str sn),some (.int z),some (.str (T [m])),some (.str (T [pt])),some (.str wy)]∧Cl bits cb (b=10)∧Rws H' L ([k_number,dw fg,dw pl]++opt cb [k_base,dw b])) (fun σ5 H5 h=>?_) (fun R hR=>?_)
      ·obtain ⟨L,cb,g5,rfl,i1,R5⟩:=h
       clear R4 g4
       have l5:([k_number,dw fg,dw pl]++opt cb [k_base,dw b]).length≤5:=by
        cases cb with
        | true=>exact (show 5≤5 by decide)
        | false=>exact (show 3≤5 by decide)
       refine r_seqJ (fun σ' H'=>∃ L cg,Same H2 H'∧σ'=[some (.ref p),some (.int bits),some (.ref L),some (.int fg),some (.int pl),some (.int b),some (.str sn),some (.int z),some (.str (T [m])),some (.str (T [pt])),some (.str wy)]∧Cl bits cg (sn = "minus")∧Rws H' L (([k_number,dw fg,dw pl]++opt cb [k_base,dw b])++opt cg [k_sign,Lt sn])) (fun σ6 H6 h=>?_) (fun R hR=>?_)
       ·obtain ⟨L,cg,g6,rfl,i2,R6⟩:=h
        clear R5 g5
        have l6:(([k_number,dw fg,dw pl]++opt cb [k_base,dw b])++opt cg [k_sign,Lt sn]).length≤7:=by
         rw [List.length_append]
         cases cg with
         | true=>exact Nat.add_le_add_right l5 2
         | false=>exact Nat.le_trans l5 (by decide)
        generalize hw6:([k_number,dw fg,dw pl]++opt cb [k_base,dw b])++opt cg [k_sign,Lt sn]=ws6 at *
        refine r_seqJ (fun σ' H'=>∃ L,Same H2 H'∧σ'=[some (.ref p),some (.int bits),some (.ref L),some (.int fg),some (.int pl),some (.int b),some (.str sn),some (.int z),some (.str (T [m])),some (.str (T [pt])),some (.str wy)]∧Rws H' L (ws6++opt (decide (0 < z)) [k_groups,dw z,sw m])) (fun σ7 H7 h=>?_) (fun R hR=>?_)
        ·obtain ⟨L,g7,rfl,R7⟩:=h
         clear R6 g6
         have l7:(ws6++opt (decide (0 < z)) [k_groups,dw z,sw m]).length≤10:=by
          rw [List.length_append]
          cases decide (0 < z) with
          | true=>exact Nat.add_le_add_right l6 3
          | false=>exact Nat.le_trans l6 (by decide)
         generalize hw7:ws6++opt (decide (0 < z)) [k_groups,dw z,sw m]=ws7 at *
         refine r_seqJ (fun σ' H'=>∃ L cp,Same H2 H'∧σ'=[some (.ref p),some (.int bits),some (.ref L),some (.int fg),some (.int pl),some (.int b),some (.str sn),some (.int z),some (.str (T [m])),some (.str (T [pt])),some (.str wy)]∧Cl bits cp (pt=46)∧Rws H' L (ws7++opt cp [k_point,sw pt])) (fun σ8 H8 h=>?_) (fun R hR=>?_)
         ·obtain ⟨L,cp,g8,rfl,i3,R8⟩:=h
          clear R7 g7
          have l8:(ws7++opt cp [k_point,sw pt]).length≤12:=by
           rw [List.length_append]
           cases cp with
           | true=>exact Nat.add_le_add_right l7 2
           | false=>exact Nat.le_trans l7 (by decide)
          generalize hw8:ws7++opt cp [k_point,sw pt]=ws8 at *
          refine r_seqJ (fun σ' H'=>∃ L cw,Same H2 H'∧σ'=[some (.ref p),some (.int bits),some (.ref L),some (.int fg),some (.int pl),some (.int b),some (.str sn),some (.int z),some (.str (T [m])),some (.str (T [pt])),some (.str wy)]∧Cl bits cw (wy = "near")∧Rws H' L (ws8++opt cw [k_way,Lt wy])) (fun σ9 H9 h=>?_) (fun R hR=>?_)
          ·obtain ⟨L,cw,g9,rfl,i4,R9⟩:=h
           walk_at "rd"
           refine q L H9 _ g9 ⟨cb,cg,cp,cw,i1,i2,i3,i4,rfl⟩ ?_
           rw [← hw8,← hw7,← hw6] at R9
           unfold wBase wSign wGroups wPoint wWay
           rw [List.append_nil]
           simp only [List.append_assoc] at R9
           exact R9
          ·have done : ∀ {l:Addr} {us:List V} {H':Hp},(bits=0 → ¬ (wy = "near"))→Same H8 H'→H' l=some (.lst us)→Rw H' us [k_way,Lt wy]→rCat (.ref L) (.ref l) H' (fun y H5=>R { nx:=fun x H'=>Q V.non H',rt:=Q } ([some (.ref p),some (.int bits),some (.ref L),some (.int fg),some (.int pl),some (.int b),some (.str sn),some (.int z),some (.str (T [m])),some (.str (T [pt])),some (.str wy)].set 2 (some y)) H5):=fun hx g e r=>rws_add R8 g e r (by show _+2≤1000;omega) fun L2 H6 g6 R6=>hR _ _ ⟨L2,true,g8.trans (g.trans g6),rfl,⟨(fun h=>by cases h),fun h _=>hx h⟩,R6⟩
           walk_at "rd"
           ·rename_i hc hd p6 H6 g6 e6 p7 H7 g7 e7 l8 H8 g8 e8
            exact done (fun h=>by omega) (g6.trans (g7.trans g8)) e8 (.cons (g8.at (g7.at e6)) (.cons (by rw [T_Lt];exact g8.at e7) .nil))
           ·rename_i hc hd
            refine hR _ _ ⟨L,false,g8,rfl,⟨(fun _=>?_),(fun _ h=>by cases h)⟩,by rw [opt_f,List.append_nil];exact R8⟩
            first | exact hc | exact Classical.not_not.mp hc
           ·rename_i hc p6 H6 g6 e6 p7 H7 g7 e7 l8 H8 g8 e8
            exact done (fun _ h=>absurd h (by first | exact hc | simpa using hc)) (g6.trans (g7.trans g8)) e8 (.cons (g8.at (g7.at e6)) (.cons (by rw [T_Lt];exact g8.at e7) .nil))
         ·have done : ∀ {l:Addr} {us:List V} {H':Hp},(bits=0 → ¬ (pt=46))→Same H7 H'→H' l=some (.lst us)→Rw H' us [k_point,sw pt]→rCat (.ref L) (.ref l) H' (fun y H5=>R { nx:=fun x H'=>Q V.non H',rt:=Q } ([some (.ref p),some (.int bits),some (.ref L),some (.int fg),some (.int pl),some (.int b),some (.str sn),some (.int z),some (.str (T [m])),some (.str (T [pt])),some (.str wy)].set 2 (some y)) H5):=fun hx g e r=>rws_add R7 g e r (by show _+2≤1000;omega) fun L2 H6 g6 R6=>hR _ _ ⟨L2,true,g7.trans (g.trans g6),rfl,⟨(fun h=>by cases h),fun h _=>hx h⟩,R6⟩
          walk_at "rd"
          ·rename_i hc hd p6 H6 g6 e6 p7 H7 g7 e7 l8 H8 g8 e8
           exact done (fun h=>by omega) (g6.trans (g7.trans g8)) e8 (.cons (g8.at (g7.at e6)) (.cons (g8.at e7) .nil))
          ·rename_i hc hd
           refine hR _ _ ⟨L,false,g7,rfl,⟨(fun _=>?_),(fun _ h=>by cases h)⟩,by rw [opt_f,List.append_nil];exact R7⟩
           first | simpa using hc | exact hc
          ·rename_i hc p6 H6 g6 e6 p7 H7 g7 e7 l8 H8 g8 e8
           exact done (fun _ h=>absurd h (by first | exact hc | simpa using hc)) (g6.trans (g7.trans g8)) e8 (.cons (g8.at (g7.at e6)) (.cons (g8.at e7) .nil))
        ·walk_at "rd"
         ·rename_i hc p7 H7 g7 e7 p8 H8 g8 e8 l9 H9 g9 e9
          have gz:Same H6 H9:=g7.trans (g8.trans g9)
          refine rws_addN R6 gz e9 (.cons (g9.at (g8.at e7)) (.cons (g9.at e8) .nil)) (by show _+2≤1000;omega) fun L2 vs2 H10 n10 g10 e10 r10=>?_
          walk_at "rd"
          rename_i p11 H11 g11 e11
          have e10':=g11.at e10
          refine r_append e10' (small1000 (by have:=r10.len;rw [List.length_append] at this;rw [this];show _+2≤1000;omega)) ?_
          walk_at "rd"
          have kp : ∀ b ys,H11 b=some (.tup ys)→(upd H11 L2 (.lst (vs2++[.ref p11]))) b=some (.tup ys):=fun b ys e=>by rw [upd_ne (fun q'=>by subst q';rw [e10'] at e;cases e)];exact e
          refine hR _ _ ⟨L2,fun c u e=>?_,rfl,_,upd_same,?_⟩
          ·have e9':=gz.at (g6.at e)
           rw [upd_ne (ne_of_none e9' n10)];exact g11.at (g10.at e9')
          ·have:=((r10.same g11).app (.cons e11 .nil)).keep kp
           rw [decide_eq_true hc]
           rw [List.append_assoc] at this
           exact this
         ·rename_i hc
          refine hR _ _ ⟨L,g6,rfl,?_⟩
          rw [decide_eq_false hc,opt_f,List.append_nil];exact R6
       ·have done : ∀ {l:Addr} {us:List V} {H':Hp},(bits=0 → ¬ (sn = "minus"))→Same H5 H'→H' l=some (.lst us)→Rw H' us [k_sign,Lt sn]→rCat (.ref L) (.ref l) H' (fun y H5=>R { nx:=fun x H'=>Q V.non H',rt:=Q } ([some (.ref p),some (.int bits),some (.ref L),some (.int fg),some (.int pl),some (.int b),some (.str sn),some (.int z),some (.str (T [m])),some (.str (T [pt])),some (.str wy)].set 2 (some y)) H5):=fun hx g e r=>rws_add R5 g e r (by show _+2≤1000;omega) fun L2 H6 g6 R6=>hR _ _ ⟨L2,true,g5.trans (g.trans g6),rfl,⟨(fun h=>by cases h),fun h _=>hx h⟩,R6⟩
        walk_at "rd"
        ·rename_i hc hd p6 H6 g6 e6 p7 H7 g7 e7 l8 H8 g8 e8
         exact done (fun h=>by omega) (g6.trans (g7.trans g8)) e8 (.cons (g8.at (g7.at e6)) (.cons (by rw [T_Lt];exact g8.at e7) .nil))
        ·rename_i hc hd
         refine hR _ _ ⟨L,false,g5,rfl,⟨(fun _=>?_),(fun _ h=>by cases h)⟩,by rw [opt_f,List.append_nil];exact R5⟩
         first | exact hc | exact Classical.not_not.mp hc
        ·rename_i hc p6 H6 g6 e6 p7 H7 g7 e7 l8 H8 g8 e8
         exact done (fun _ h=>absurd h (by first | exact hc | simpa using hc)) (g6.trans (g7.trans g8)) e8 (.cons (g8.at (g7.at e6)) (.cons (by rw [T_Lt];exact g8.at e7) .nil))
      ·have done : ∀ {l:Addr} {us:List V} {H':Hp},(bits=0 → ¬ (b=10))→Same H4 H'→H' l=some (.lst us)→Rw H' us [k_base,dw b]→rCat (.ref L) (.ref l) H' (fun y H5=>R { nx:=fun x H'=>Q V.non H',rt:=Q } ([some (.ref p),some (.int bits),some (.ref L),some (.int fg),some (.int pl),some (.int b),some (.str sn),some (.int z),some (.str (T [m])),some (.str (T [pt])),some (.str wy)].set 2 (some y)) H5):=fun hx g e r=>rws_add R4 g e r (by show 3+2≤1000;decide) fun L2 H5 g5 R5=>hR _ _ ⟨L2,true,g4.trans (g.trans g5),rfl,⟨(fun h=>by cases h),fun h _=>hx h⟩,R5⟩
       walk_at "rd"
       ·rename_i hc hd p5 H5 g5 e5 p6 H6 g6 e6 l7 H7 g7 e7
        exact done (fun h=>by omega) (g5.trans (g6.trans g7)) e7 (.cons (g7.at (g6.at e5)) (.cons (g7.at e6) .nil))
       ·rename_i hc hd
        exact hR _ _ ⟨L,false,g4,rfl,⟨(fun _=>by omega),(fun _ h=>by cases h)⟩,R4⟩
       ·rename_i hc p5 H5 g5 e5 p6 H6 g6 e6 l7 H7 g7 e7
        exact done (fun _ h=>absurd h (by first | exact hc | simpa using hc)) (g5.trans (g6.trans g7)) e7 (.cons (g7.at (g6.at e5)) (.cons (g7.at e6) .nil))
     ·walk_at "rd"
      rename_i p1 H4 g4 e4 p2 H5 g5 e5 p3 H6 g6 e6 L H7 g7 e7
      exact hR _ _ ⟨L,g3.trans (g4.trans (g5.trans (g6.trans g7))),rfl,_,e7,.cons (g7.at (g6.at (g5.at e4))) (.cons (g7.at (g6.at e5)) (.cons (g7.at e6) .nil))⟩
    ·walk_at "rd"
     refine r_slT (n:=13) hp rfl (by decide) fun p2 H3 g3 e3=>?_
     have e3':H3 p2=some (.tup [.int fg,.int pl,.int b,.str sn,.int z,.str (T [m]),.str (T [pt]),.str wy]):=e3
     clear e3
     walk_at "rd"
     exact hR _ _ ⟨g3,rfl⟩
   ·walk_at "rd"
    exact hR _ _ ⟨rfl,rfl⟩
  ·walk_at "rd"
   exact hR _ _ ⟨rfl,rfl⟩
 ·unfold SpecW at hp
  have o1:=wr.lo1;have o2:=wr.lo2;have o3:=wr.hi2
  walk_at "rd"
  rename_i p1 H1 g1 e1
  refine ⟨sg,_,rfl,se.d.s2,se.ne,wo_up se.d,fun w H2 g2 hw hw0=>?_⟩
  have hp2:=g2.at (g1.at hp)
  walk_at "rd"
  rename_i p3 H3 g3 e3 l4 H4 g4 e4 p5 H5 g5 e5 p6 H6 g6 e6 l7 H7 g7 e7
  have R4:Rws H4 l4 [k_word,w]:=⟨_,e4,.cons (g4.at (g3.at (g2.at e1))) (.cons (g4.at e3) .nil)⟩
  refine rws_add R4 (g5.trans (g6.trans g7)) e7 (.cons (g7.at (g6.at e5)) (.cons (g7.at e6) .nil)) (by show 2+2≤1000;decide) fun L8 H8 g8 R8=>?_
  have g08:Same H H8:=g1.trans (g2.trans (g3.trans (g4.trans (g5.trans (g6.trans (g7.trans g8))))))
  have hp8:=g08.at hp
  clear e1 e3 e4 e5 e6 e7 R4
  walk_at "rd"
  ·rename_i p9 H9 g9 e9 l10 H10 g10 e10 hc l11 H11 g11 e11
   have e11':H11 l11=some (.lst [.ref p9]):=e11
   exact rws_add R8 (g9.trans (g10.trans g11)) e11' (.cons (g11.at (g10.at e9)) .nil) (by show 4+1≤1000;decide) fun L12 H12 g12 R12=>q L12 H12 (k_word::w::dw lo::dw hi::[k_blank]) (g08.trans (g9.trans (g10.trans (g11.trans g12)))) ⟨w,hw,(fun h=>hw0 (by omega)),by rw [decide_eq_true hc];rfl⟩ R12
  ·rename_i p9 H9 g9 e9 l10 H10 g10 e10 hc l11 H11 g11 e11
   have e11':H11 l11=some (.lst []):=e11
   exact rws_add R8 (g9.trans (g10.trans g11)) e11' .nil (by show 4+0≤1000;decide) fun L12 H12 g12 R12=>q L12 H12 (k_word::w::dw lo::dw hi::[]) (g08.trans (g9.trans (g10.trans (g11.trans g12)))) ⟨w,hw,(fun h=>hw0 (by omega)),by rw [decide_eq_false hc];rfl⟩ R12
 ·unfold SpecC at hp
  have tl:(tsV ns).length=ns.length:=List.length_map _
  walk_at "rd"
  rename_i p1 H1 g1 e1 p2 H2 g2 e2 l3 H3 g3 e3
  rw [tl] at e2
  have R3:Rws H3 l3 [k_choice,dw ns.length]:=⟨_,e3,.cons (g3.at (g2.at e1)) (.cons (g3.at e2) .nil)⟩
  have g03:Same H H3:=g1.trans (g2.trans g3)
  have hL3:=g03.at hL
  refine r_kCompL (SqL.of hL3) (small (by omega)) (fun i ys H'=>Same H3 H'∧Rw H' ys (ns.take i)) ⟨Same.refl _,.nil⟩ (fun i ys H' hi h=>⟨SqL.of (h.1.at hL3),by rw [h.2.len,List.length_take];omega⟩) ?_ ?_
  ·rintro i y ys H4 hy hi ⟨g4,r4⟩
   have il:i < ns.length:=by omega
   have ey:y = .str (T ns[i]):=by
    unfold tsV at hy
    rw [List.getElem?_map,List.getElem?_eq_getElem il] at hy
    exact (Option.some.inj hy).symm
   subst ey
   walk_at "rd"
   rename_i p5 H5 g5 e5
   refine nxC hi ⟨g4.trans g5,?_⟩
   rw [List.take_succ_eq_append_getElem il]
   exact (r4.same g5).app (.cons e5 .nil)
  ·rintro ys H4 ⟨g4,r4⟩ p5 H5 g5 e5
   rw [tl,List.take_length] at r4
   exact rws_add R3 (g4.trans g5) e5 (r4.same g5) (by show 2+_≤1000;omega) fun L6 H6 g6 R6=>q L6 H6 _ (g03.trans (g4.trans (g5.trans g6))) rfl R6
theorem opt_len {c:Bool} {l:List (List Nat)}:(opt c l).length≤l.length:=by
 cases c with
 | true=>exact Nat.le_refl _
 | false=>exact Nat.zero_le _
theorem SpA.bd {H:Hp} {p:Addr} {wd:Int} {f:Nat} {x:Str} {st:Bool} {W:Int→List (List Nat)→Prop} {d:Str} (h:SpA H p wd f x st W d):0≤wd∧wd≤40∧Sgn f∧SideI x ∧ ∀ bits ws,W bits ws→ws.length≤14:=by
 rcases h with ⟨fg,pl,b,sn,z,m,pt,wy,hp,ok,sg3,hs,rfl,rfl⟩ | ⟨sg,lo,hi,hp,se,wr,hs,rfl,rfl⟩ | ⟨L0,ns,hp,hL,nm,n1,n12,wc,hs,rfl,rfl⟩
 ·refine ⟨ok.wd1,ok.wd2,sg3.2.2,ok.x,?_⟩
  rintro bits ws ⟨cb,cg,cp,cw,_,_,_,_,rfl⟩
  unfold wBase wSign wGroups wPoint wWay
  simp only [List.length_cons,List.length_append,List.length_nil]
  have a1:=opt_len (c:=cb) (l:=[k_base,dw b])
  have a2:=opt_len (c:=cg) (l:=[k_sign,Lt sn])
  have a3:=opt_len (c:=decide (0 < z)) (l:=[k_groups,dw z,sw m])
  have a4:=opt_len (c:=cp) (l:=[k_point,sw pt])
  have a5:=opt_len (c:=cw) (l:=[k_way,Lt wy])
  simp only [List.length_cons,List.length_nil] at a1 a2 a3 a4 a5
  omega
 ·refine ⟨wr.wd1,wr.wd2,wr.f,.inl wr.x,?_⟩
  rintro bits ws ⟨w,_,_,rfl⟩
  have:=opt_len (c:=decide (32 ∈ sg)) (l:=[k_blank])
  simp only [List.length_cons,List.length_nil] at this ⊢
  omega
 ·refine ⟨wc.wd1,wc.wd2,wc.f,.inl wc.x,?_⟩
  rintro bits ws rfl
  simp only [List.length_cons]
  omega
def sp_law_word_rows (K:PySem.W.Frag):Sp:=fun vs H Q _=>∃ (p:Addr) (bits wd:Int) (f:Nat) (x:Str) (st:Bool) (W:Int→List (List Nat)→Prop) (d:Str),vs=[.ref p,.int bits]∧SpA H p wd f x st W d ∧ ∀ L H' ws cf cs,Same H H'→W bits ws→Cl bits cf (f=32)→Cl bits cs (x=d)→Rws H' L (ws++wLast wd f x cf cs st)→Q (.ref L) H'
theorem ok_law_word_rows {f : Addr} {fd : FuncData} (F : Fun K "_law_word_rows" "_law_word_rows" s_law_word_rows f fd) (B : Blt mg) (C_law_first_rows : Has P w K mg base "_law_first_rows" 4 ["_law_spec", "_law_bits"] (sp_law_first_rows K)) (C_law_sign_word : Has P w K mg base "_law_sign_word" 1 ["_law_sign"] (sp_law_sign_word K)) : FnOk P w K mg base CX0 5 f fd ["_law_spec", "_law_bits"] (sp_law_word_rows K) := by classical
  refine F.ok sc_law_word_rows (fun vs H Q E h => ?_) (fun cdv A outer s H vs Q E hr h => ?_)
  · obtain ⟨p, bits, wd, f, x, st, W, d, rfl, hA, q⟩ := h
    rfl
  obtain ⟨p, bits, wd, f, x, st, W, d, rfl, hA, q⟩ := h
  refine ⟨_, pss_cons (ps_set (i := 2) sc_law_word_rows.nd rfl (Or.inl rfl) (pe_callH C_law_first_rows hr rfl (pa_cons (pv 0) (pa_cons (pv 1) (pa_nil)))))
    (pss_cons (ps_asg (pe_slice sl_tup (pv 0) (po_some (pe_un un_neg (pe_int))) (po_none)) (pg_tup rfl (pgs_cons (pg_name (i := 3) sc_law_word_rows.nd rfl (Or.inl rfl)) (pgs_cons (pg_name (i := 4) sc_law_word_rows.nd rfl (Or.inl rfl)) (pgs_cons (pg_name (i := 5) sc_law_word_rows.nd rfl (Or.inl rfl)) (pgs_cons (pg_name (i := 6) sc_law_word_rows.nd rfl (Or.inl rfl)) (pgs_nil)))))))
    (pss_cons (ps_set (i := 7) sc_law_word_rows.nd rfl (Or.inl rfl) (pe_ix ix_list (pe_lst (pa_cons (pe_str) (pa_cons (pe_str) (pa_nil)))) (pe_callTy call_int1N rfl B.z_int bo_int (pa_cons (pe_cmpR op_eq (pe_ix ix_tup (pv 0) (pe_int) (fun _ _ => rfl)) (pe_strT (l := [110, 117, 109, 98, 101, 114]) (by decide +kernel)) (nomark _)) (pa_nil))) (fun _ _ => rfl)))
    (pss_cons (ps_if (pt_cmpR op_gt (pv 3) (pe_int) (nomark _)) (pss_one (ps_set (i := 2) sc_law_word_rows.nd rfl (Or.inl rfl) (pe_op op_cat (pv 2) (pe_lst (pa_cons (pe_tup (pa_cons (pe_strT (l := [119, 105, 100, 116, 104]) (by decide +kernel)) (pa_cons (pe_str) (pa_cons (pe_int) (pa_cons (pe_int) (pa_nil)))))) (pa_cons (pe_tup (pa_cons (pe_callTy call_strD rfl B.z_str bo_str (pa_cons (pv 3) (pa_nil))) (pa_cons (pe_strT (l := [110, 117, 109, 98, 101, 114]) (by decide +kernel)) (pa_cons (pe_int) (pa_cons (pe_int) (pa_nil)))))) (pa_nil))))))) (pss_nil))
    (pss_cons (ps_if (PW.pt (pw_or (pt_cmpR op_ne (pv 4) (pe_strT (l := [32]) (by decide +kernel)) (nomark _)) (pw_or1 (pt_cmpR op_eq (pe_op op_modP (pe_op op_fdivB (pv 1) (pe_int)) (pe_int)) (pe_int) (nomark _))))) (pss_one (ps_set (i := 2) sc_law_word_rows.nd rfl (Or.inl rfl) (pe_op op_cat (pv 2) (pe_lst (pa_cons (pe_tup (pa_cons (pe_strT (l := [102, 105, 108, 108]) (by decide +kernel)) (pa_cons (pe_str) (pa_cons (pe_int) (pa_cons (pe_int) (pa_nil)))))) (pa_cons (pe_tup (pa_cons (pe_callH C_law_sign_word hr rfl (pa_cons (pv 4) (pa_nil))) (pa_cons (pe_strT (l := [115, 105, 103, 110]) (by decide +kernel)) (pa_cons (pe_int) (pa_cons (pe_int) (pa_nil)))))) (pa_nil))))))) (pss_nil))
    (pss_cons (ps_if (PW.pt (pw_or (pt_cmpR op_ne (pv 5) (pv 7) (nomark _)) (pw_or1 (pt_cmpR op_eq (pe_op op_modP (pe_op op_fdivB (pv 1) (pe_int)) (pe_int)) (pe_int) (nomark _))))) (pss_one (ps_set (i := 2) sc_law_word_rows.nd rfl (Or.inl rfl) (pe_op op_cat (pv 2) (pe_lst (pa_cons (pe_tup (pa_cons (pe_strT (l := [115, 105, 100, 101]) (by decide +kernel)) (pa_cons (pe_str) (pa_cons (pe_int) (pa_cons (pe_int) (pa_nil)))))) (pa_cons (pe_tup (pa_cons (pv 5) (pa_cons (pe_strT (l := [115, 105, 100, 101]) (by decide +kernel)) (pa_cons (pe_int) (pa_cons (pe_int) (pa_nil)))))) (pa_nil))))))) (pss_nil))
    (pss_one (ps_ret (pe_op op_cat (pv 2) (pe_slice sl_list (pe_lst (pa_cons (pe_tup (pa_cons (pe_strT (l := [115, 116, 114, 105, 99, 116]) (by decide +kernel)) (pa_cons (pe_str) (pa_cons (pe_int) (pa_cons (pe_int) (pa_nil)))))) (pa_nil))) (po_none) (po_some (pe_callTy call_int1N rfl B.z_int bo_int (pa_cons (pv 6) (pa_nil))))))))))))), ?_⟩
  walk_at "st"
  obtain ⟨o9, o10, _, _, hW⟩ := hA.bd
  refine r_seqJ (fun σ' H' => ∃ L ws, Same H H' ∧ σ' = [some (.ref p), some (.int bits), some (.ref L), none, none, none, none, none] ∧ W bits ws ∧ Rws H' L ws) (fun σ1 H1 h => ?_) (fun R hR => ?_)
  · obtain ⟨L, ws1, g1, rfl, w1, R1⟩ := h
    have l1 := hW bits ws1 w1
    have hA1 := hA.same g1
    refine r_seqJ (fun σ' H' => Same H H' ∧ Rws H' L ws1 ∧ SpA H' p wd f x st W d ∧ σ' = [some (.ref p), some (.int bits), some (.ref L), some (.int wd), some (.str (T [f])), some (.str x), some (.bl st), none]) (fun σ2 H2 h => ?_) (fun R hR => ?_)
    · obtain ⟨g2, R2, hA2, rfl⟩ := h
      clear R1 hA1
      refine r_seqJ (fun σ' H' => Same H H' ∧ Rws H' L ws1 ∧ σ' = [some (.ref p), some (.int bits), some (.ref L), some (.int wd), some (.str (T [f])), some (.str x), some (.bl st), some (.str d)]) (fun σ3 H3 h => ?_) (fun R hR => ?_)
      · obtain ⟨g3, R3, rfl⟩ := h
        clear hA2
        refine r_seqJ (fun σ' H' => ∃ L, Same H H' ∧ σ' = [some (.ref p), some (.int bits), some (.ref L), some (.int wd), some (.str (T [f])), some (.str x), some (.bl st), some (.str d)] ∧ Rws H' L (ws1 ++ opt (decide (0 < wd)) [k_width, dw wd])) (fun σ4 H4 h => ?_) (fun R hR => ?_)
        · obtain ⟨L, g4, rfl, R4⟩ := h
          clear R3 g3
          have l4 : (ws1 ++ opt (decide (0 < wd)) [k_width, dw wd]).length ≤ 16 := by
            have := opt_len (c := decide (0 < wd)) (l := [k_width, dw wd])
            simp only [List.length_cons, List.length_nil] at this
            rw [List.length_append]; omega
          generalize hw4 : ws1 ++ opt (decide (0 < wd)) [k_width, dw wd] = ws4 at *
          refine r_seqJ (fun σ' H' => ∃ L cf, Same H H' ∧ σ' = [some (.ref p), some (.int bits), some (.ref L), some (.int wd), some (.str (T [f])), some (.str x), some (.bl st), some (.str d)] ∧ Cl bits cf (f = 32) ∧ Rws H' L (ws4 ++ opt cf [k_fill, sw f])) (fun σ5 H5 h => ?_) (fun R hR => ?_)
          · obtain ⟨L, cf, g5, rfl, i5, R5⟩ := h
            clear R4 g4
            have l5 : (ws4 ++ opt cf [k_fill, sw f]).length ≤ 18 := by
              have := opt_len (c := cf) (l := [k_fill, sw f])
              simp only [List.length_cons, List.length_nil] at this
              rw [List.length_append]; omega
            generalize hw5 : ws4 ++ opt cf [k_fill, sw f] = ws5 at *
            refine r_seqJ (fun σ' H' => ∃ L cs, Same H H' ∧ σ' = [some (.ref p), some (.int bits), some (.ref L), some (.int wd), some (.str (T [f])), some (.str x), some (.bl st), some (.str d)] ∧ Cl bits cs (x = d) ∧ Rws H' L (ws5 ++ opt cs [k_side, Lt x])) (fun σ6 H6 h => ?_) (fun R hR => ?_)
            · obtain ⟨L, cs, g6, rfl, i6, R6⟩ := h
              clear R5 g5
              have l6 : (ws5 ++ opt cs [k_side, Lt x]).length ≤ 20 := by
                have := opt_len (c := cs) (l := [k_side, Lt x])
                simp only [List.length_cons, List.length_nil] at this
                rw [List.length_append]; omega
              have fin : ∀ L2 H2, Same H6 H2 → Rws H2 L2 ((ws5 ++ opt cs [k_side, Lt x]) ++ opt st [k_strict]) → Q (.ref L2) H2 := fun L2 H2 g r => by
                refine q L2 H2 ws1 cf cs (g6.trans g) w1 i5 i6 ?_
                rw [← hw5, ← hw4] at r
                unfold wLast
                simp only [List.append_assoc, List.append_nil] at r ⊢
                exact r
              cases st with
              | true =>
                walk_at "rd"
                rename_i p7 H7 g7 e7 l8 H8 g8 e8 l9 H9 g9 e9
                have e9' : H9 l9 = some (.lst [.ref p7]) := e9
                exact rws_add R6 (g7.trans (g8.trans g9)) e9' (.cons (g9.at (g8.at e7)) .nil) (by show _ + 1 ≤ 1000; omega) fun L2 H2 g r => fin L2 H2 (g7.trans (g8.trans (g9.trans g))) r
              | false =>
                walk_at "rd"
                rename_i p7 H7 g7 e7 l8 H8 g8 e8 l9 H9 g9 e9
                have e9' : H9 l9 = some (.lst []) := e9
                exact rws_add R6 (g7.trans (g8.trans g9)) e9' .nil (by show _ + 0 ≤ 1000; omega) fun L2 H2 g r => fin L2 H2 (g7.trans (g8.trans (g9.trans g))) r
            · have done : ∀ {l : Addr} {us : List V} {H' : Hp}, (bits = 0 → ¬ (x = d)) → Same H5 H' → H' l = some (.lst us) → Rw H' us [k_side, Lt x] → rCat (.ref L) (.ref l) H' (fun y H5 => R { nx := fun x H' => Q V.non H', rt := Q } ([some (.ref p), some (.int bits), some (.ref L), some (.int wd), some (.str (T [f])), some (.str x), some (.bl st), some (.str d)].set 2 (some y)) H5) := fun hx g e r => rws_add R5 g e r (by show _ + 2 ≤ 1000; omega) fun L2 H6 g6 R6 => hR _ _ ⟨L2, true, g5.trans (g.trans g6), rfl, ⟨(fun h => by cases h), fun h _ => hx h⟩, R6⟩
              walk_at "rd"
              · rename_i hc hd p6 H6 g6 e6 p7 H7 g7 e7 l8 H8 g8 e8
                exact done (fun h => by omega) (g6.trans (g7.trans g8)) e8 (.cons (g8.at (g7.at e6)) (.cons (by rw [T_Lt]; exact g8.at e7) .nil))
              · rename_i hc hd
                refine hR _ _ ⟨L, false, g5, rfl, ⟨(fun _ => ?_), (fun _ h => by cases h)⟩, by rw [opt_f, List.append_nil]; exact R5⟩
                first | exact hc | exact Classical.not_not.mp hc
              · rename_i hc p6 H6 g6 e6 p7 H7 g7 e7 l8 H8 g8 e8
                exact done (fun _ h => absurd h (by first | exact hc | simpa using hc)) (g6.trans (g7.trans g8)) e8 (.cons (g8.at (g7.at e6)) (.cons (by rw [T_Lt]; exact g8.at e7) .nil))
          · have done : ∀ {l : Addr} {us : List V} {H' : Hp}, (bits = 0 → ¬ (f = 32)) → Same H4 H' → H' l = some (.lst us) → Rw H' us [k_fill, sw f] → rCat (.ref L) (.ref l) H' (fun y H5 => R { nx := fun x H' => Q V.non H', rt := Q } ([some (.ref p), some (.int bits), some (.ref L), some (.int wd), some (.str (T [f])), some (.str x), some (.bl st), some (.str d)].set 2 (some y)) H5) := fun hx g e r => rws_add R4 g e r (by show _ + 2 ≤ 1000; omega) fun L2 H6 g6 R6 => hR _ _ ⟨L2, true, g4.trans (g.trans g6), rfl, ⟨(fun h => by cases h), fun h _ => hx h⟩, R6⟩
            walk_at "rd"
            · rename_i hc hd p6 H6 g6 e6 p7 H7 g7 e7 l8 H8 g8 e8
              exact done (fun h => by omega) (g6.trans (g7.trans g8)) e8 (.cons (g8.at (g7.at e6)) (.cons (g8.at e7) .nil))
            · rename_i hc hd
              refine hR _ _ ⟨L, false, g4, rfl, ⟨(fun _ => ?_), (fun _ h => by cases h)⟩, by rw [opt_f, List.append_nil]; exact R4⟩
              first | simpa using hc | exact hc
            · rename_i hc p6 H6 g6 e6 p7 H7 g7 e7 l8 H8 g8 e8
              exact done (fun _ h => absurd h (by first | exact hc | simpa using hc)) (g6.trans (g7.trans g8)) e8 (.cons (g8.at (g7.at e6)) (.cons (g8.at e7) .nil))
        · walk_at "rd"
          · rename_i hc p6 H6 g6 e6 p7 H7 g7 e7 l8 H8 g8 e8
            refine rws_add R3 (g6.trans (g7.trans g8)) e8 (.cons (g8.at (g7.at e6)) (.cons (g8.at e7) .nil)) (by show _ + 2 ≤ 1000; omega) fun L2 H9 g9 R9 => ?_
            walk_at "rd"
            refine hR _ _ ⟨L2, g3.trans (g6.trans (g7.trans (g8.trans g9))), rfl, ?_⟩
            rw [decide_eq_true hc]; exact R9
          · rename_i hc
            refine hR _ _ ⟨L, g3, rfl, ?_⟩
            rw [decide_eq_false hc, opt_f, List.append_nil]; exact R3
      · rcases hA2 with ⟨fg, pl, b, sn, z, m, pt, wy, hp, ok, sg3, hs, rfl, rfl⟩ | ⟨sg, lo, hi, hp, se, wr, hs, rfl, rfl⟩ | ⟨L0, ns, hp, hL, nm, n1, n12, wc, hs, rfl, rfl⟩
        · unfold SpecN at hp
          walk_at "rd"
          rename_i l3 H3 g3 e3
          exact hR _ _ ⟨g2.trans g3, R2.same g3, rfl⟩
        · unfold SpecW at hp
          walk_at "rd"
          rename_i l3 H3 g3 e3
          exact hR _ _ ⟨g2.trans g3, R2.same g3, rfl⟩
        · unfold SpecC at hp
          walk_at "rd"
          rename_i l3 H3 g3 e3
          exact hR _ _ ⟨g2.trans g3, R2.same g3, rfl⟩
    · have hA0 := hA1
      rcases hA1 with ⟨fg, pl, b, sn, z, m, pt, wy, hp, ok, sg3, hs, rfl, rfl⟩ | ⟨sg, lo, hi, hp, se, wr, hs, rfl, rfl⟩ | ⟨L0, ns, hp, hL, nm, n1, n12, wc, hs, rfl, rfl⟩
      · unfold SpecN at hp
        walk_at "rd"
        refine r_slT (n := 13) hp rfl (by decide) fun p2 H3 g3 e3 => ?_
        have e3' : H3 p2 = some (.tup [.int wd, .str (T [f]), .str x, .bl st]) := e3
        clear e3
        walk_at "rd"
        exact hR _ _ ⟨g1.trans g3, R1.same g3, hA0.same g3, rfl⟩
      · unfold SpecW at hp
        walk_at "rd"
        refine r_slT (n := 8) hp rfl (by decide) fun p2 H3 g3 e3 => ?_
        have e3' : H3 p2 = some (.tup [.int wd, .str (T [f]), .str x, .bl st]) := e3
        clear e3
        walk_at "rd"
        exact hR _ _ ⟨g1.trans g3, R1.same g3, hA0.same g3, rfl⟩
      · unfold SpecC at hp
        walk_at "rd"
        refine r_slT (n := 6) hp rfl (by decide) fun p2 H3 g3 e3 => ?_
        have e3' : H3 p2 = some (.tup [.int wd, .str (T [f]), .str x, .bl st]) := e3
        clear e3
        walk_at "rd"
        exact hR _ _ ⟨g1.trans g3, R1.same g3, hA0.same g3, rfl⟩
  · walk_at "rd"
    refine ⟨p, bits, wd, f, x, st, W, d, rfl, hA, fun L H1 ws g1 w1 R1 => ?_⟩
    walk_at "rd"
    exact hR _ _ ⟨L, ws, g1, rfl, w1, R1⟩
def Cs (t:List Nat):Prop:=∀ c ∈ t,c≠32∧c ∈ Lt allS
instance (t:List Nat):Decidable (Cs t):=by unfold Cs;infer_instance
def WT (l:List (List Nat)) (n m:Nat):Prop:=(∀ t ∈ l,Cs t)∧l.flatten.length≤n∧l.length≤m
theorem WT.nil:WT [] 0 0:=⟨(fun t ht=>by cases ht),Nat.le_refl _,Nat.le_refl _⟩
theorem WT.cons {t:List Nat} {r:List (List Nat)} {k n m:Nat} (h1:Cs t∧t.length≤k) (h2:WT r n m):WT (t::r) (k+n) (m+1):=⟨fun u hu=>(List.mem_cons.mp hu).elim (fun e=>e ▸ h1.1) (h2.1 u),by rw [List.flatten_cons,List.length_append];exact Nat.add_le_add h1.2 h2.2.1,Nat.succ_le_succ h2.2.2⟩
theorem WT.app {l r:List (List Nat)} {n m n' m':Nat} (h1:WT l n m) (h2:WT r n' m'):WT (l++r) (n+n') (m+m'):=⟨fun t ht=>(List.mem_append.mp ht).elim (h1.1 t) (h2.1 t),by rw [List.flatten_append,List.length_append];exact Nat.add_le_add h1.2.1 h2.2.1,by rw [List.length_append];exact Nat.add_le_add h1.2.2 h2.2.2⟩
theorem WT.opt {c:Bool} {l:List (List Nat)} {n m:Nat} (h1:WT l n m):WT (Pw.opt c l) n m:=by
 cases c with
 | true=>exact h1
 | false=>exact ⟨(fun t ht=>by cases ht),Nat.zero_le _,Nat.zero_le _⟩
theorem WT.mono {l:List (List Nat)} {n m n' m':Nat} (h:WT l n m) (h1:n≤n') (h2:m≤m'):WT l n' m':=⟨h.1,Nat.le_trans h.2.1 h1,Nat.le_trans h.2.2 h2⟩
theorem cs_dw {n:Int} (h0:0≤n) (h1:n≤40):Cs (dw n)∧(dw n).length≤2:=by
 rw [dw_lo h0 h1]
 have all : ∀ k,k < 41→Cs (if k < 10 then [fc k] else [fc (k / 10),fc (k % 10)])∧(if k < 10 then [fc k] else [fc (k / 10),fc (k % 10)]).length≤2:=by decide +kernel
 exact all _ (by omega)
theorem cs_sw {c:Nat} (h:Sgn c):Cs (sw c)∧(sw c).length≤5:=by
 unfold sw
 by_cases z:c=32
 ·rw [if_pos z];decide +kernel
 ·rw [if_neg z]
  refine ⟨fun d hd=>?_,by show 1≤5;decide⟩
  rw [List.mem_singleton] at hd
  subst hd
  exact ⟨z,h.resolve_left z⟩
theorem cs_side {x:Str} (h:SideI x):Cs (Lt x)∧(Lt x).length≤6:=by rcases h with (rfl | rfl | rfl) | rfl <;> decide +kernel
theorem cs_sty {x:Str} (h:Style x):Cs (Lt x)∧(Lt x).length≤8:=by rcases h with rfl | rfl | rfl | rfl | rfl <;> decide +kernel
theorem cs_way {x:Str} (h:Way x):Cs (Lt x)∧(Lt x).length≤4:=by rcases h with rfl | rfl | rfl | rfl | rfl <;> decide +kernel
theorem wt_last {wd:Int} {f:Nat} {x:Str} {cf cs st:Bool} (h0:0≤wd) (h1:wd≤40) (hf:Sgn f) (hx:SideI x):WT (wLast wd f x cf cs st) 100 7:=
 WT.mono (WT.app (WT.opt (.cons (k:=5) (by decide +kernel) (.cons (cs_dw h0 h1) .nil))) (WT.app (WT.opt (.cons (k:=4) (by decide +kernel) (.cons (cs_sw hf) .nil))) (WT.app (WT.opt (.cons (k:=4) (by decide +kernel) (.cons (cs_side hx) .nil))) (WT.app (WT.opt (.cons (k:=6) (by decide +kernel) .nil)) .nil)))) (by decide) (by decide)
theorem no32 {c:Nat} (h:c ∈ Lt allS):c≠32:=fun e=>absurd (e ▸ h) (by decide +kernel)
theorem cs_sgw {w sg:List Nat} (hs:SgE sg) (h:SgW w (wo 32 sg)):Cs w∧w.length≤201:=by
 rcases h with ⟨n,v,hk,rfl,_⟩ | ⟨rfl,_,h2,_⟩
 ·rcases hk with ⟨rfl,_⟩ | ⟨rfl,_⟩ | ⟨rfl,_⟩ | ⟨rfl,_⟩ <;> decide +kernel
 ·refine ⟨fun c hc=>?_,by rw [List.length_cons];omega⟩
  rcases List.mem_cons.mp hc with rfl | hc
  ·decide +kernel
  ·obtain ⟨h3,h4⟩:=List.mem_filter.mp hc
   have h5:c≠32:=by simpa using h4
   exact ⟨h5,(hs.d.sgn c h3).resolve_left h5⟩
theorem wt_names {ns : List (List Nat)} (h : Nms ns) : ∀ {k : Nat}, ns.length ≤ k → WT ns (12 * k) k := by
  intro k hk
  refine ⟨fun t ht c hc => ⟨no32 (h.sgn t ht c hc), h.sgn t ht c hc⟩, ?_, hk⟩
  have : ∀ l : List (List Nat), (∀ t ∈ l, t.length ≤ 12) → l.flatten.length ≤ 12 * l.length := fun l => by
    induction l with
    | nil => exact fun _ => Nat.le_refl _
    | cons u us ih =>
      intro hu
      have a := ih fun t ht => hu t (List.mem_cons_of_mem _ ht)
      have b := hu u (List.mem_cons_self ..)
      rw [List.flatten_cons, List.length_append, List.length_cons]; omega
  have a := this ns fun t ht => (h.len t ht).2
  omega
theorem SpA.wt {H:Hp} {p:Addr} {wd:Int} {f:Nat} {x:Str} {st:Bool} {W:Int→List (List Nat)→Prop} {d:Str} (h:SpA H p wd f x st W d) {bits:Int} {ws:List (List Nat)} (hw:W bits ws) (cf cs:Bool):WT (ws++wLast wd f x cf cs st) 400 30:=by
 rcases h with ⟨fg,pl,b,sn,z,m,pt,wy,hp,ok,sg3,hs,rfl,rfl⟩ | ⟨sg,lo,hi,hp,se,wr,hs,rfl,rfl⟩ | ⟨L0,ns,hp,hL,nm,n1,n12,wc,hs,rfl,rfl⟩
 ·obtain ⟨cb,cg,cp,cw,_,_,_,_,rfl⟩:=hw
  have o1:=ok.fg1;have o2:=ok.fg2;have o3:=ok.pl1;have o4:=ok.pl2;have o5:=ok.b1;have o6:=ok.b2;have o7:=ok.z1;have o8:=ok.z2
  exact WT.mono (WT.app (.cons (k:=6) (by decide +kernel) (.cons (cs_dw (by omega) (by omega)) (.cons (cs_dw o3 (by omega)) (WT.app (WT.opt (.cons (k:=4) (by decide +kernel) (.cons (cs_dw (by omega) (by omega)) .nil))) (WT.app (WT.opt (.cons (k:=4) (by decide +kernel) (.cons (cs_sty ok.sn) .nil))) (WT.app (WT.opt (.cons (k:=6) (by decide +kernel) (.cons (cs_dw (by omega) (by omega)) (.cons (cs_sw sg3.1) .nil)))) (WT.app (WT.opt (.cons (k:=5) (by decide +kernel) (.cons (cs_sw sg3.2.1) .nil))) (WT.app (WT.opt (.cons (k:=3) (by decide +kernel) (.cons (cs_way ok.wy) .nil))) .nil)))))))) (wt_last ok.wd1 ok.wd2 sg3.2.2 ok.x)) (by decide) (by decide)
 ·obtain ⟨w,hw,_,rfl⟩:=hw
  have o1:=wr.lo1;have o2:=wr.lo2;have o3:=wr.hi2
  exact WT.mono (WT.app (.cons (k:=4) (by decide +kernel) (.cons (cs_sgw se hw) (.cons (cs_dw o1 (by omega)) (.cons (cs_dw (by omega) (by omega)) (WT.opt (.cons (k:=5) (by decide +kernel) .nil)))))) (wt_last wr.wd1 wr.wd2 wr.f (.inl wr.x))) (by decide) (by decide)
 ·cases hw
  exact WT.mono (WT.app (.cons (k:=6) (by decide +kernel) (.cons (cs_dw (by omega) (by omega)) (wt_names nm n12))) (wt_last wc.wd1 wc.wd2 wc.f (.inl wc.x))) (by decide) (by decide)
theorem jn_ok {ws : List (List Nat)} {n m : Nat} (h : WT ws n m) : (∀ c ∈ jn [32] ws, Sgn c) ∧ (jn [32] ws).length ≤ n + m ∧ ∀ t ∈ ws, 32 ∉ t := by
  have tail : ∀ (us : List (List Nat)), (∀ t ∈ us, Cs t) → (∀ c ∈ (us.map ([32] ++ ·)).flatten, Sgn c) ∧ ((us.map ([32] ++ ·)).flatten).length = us.flatten.length + us.length := fun us => by
    induction us with
    | nil => exact fun _ => ⟨(fun c hc => by cases hc), rfl⟩
    | cons u us ih =>
      intro hu
      obtain ⟨a1, a2⟩ := ih fun t ht => hu t (List.mem_cons_of_mem _ ht)
      have w := hu u (List.mem_cons_self ..)
      refine ⟨fun c hc => ?_, ?_⟩
      · rw [List.map_cons, List.flatten_cons, List.mem_append] at hc
        rcases hc with hc | hc
        · rcases List.mem_cons.mp hc with e | e
          · exact .inl e
          · exact .inr (w c e).2
        · exact a1 c hc
      · simp only [List.map_cons, List.flatten_cons, List.length_append, List.length_cons, List.length_nil, a2]
        omega
  obtain ⟨h1, h2, h3⟩ := h
  refine ⟨?_, ?_, fun t ht h32 => (h1 t ht 32 h32).1 rfl⟩
  · intro c hc
    cases ws with
    | nil => cases hc
    | cons u us =>
      rcases List.mem_append.mp (show c ∈ u ++ (us.map ([32] ++ ·)).flatten from hc) with e | e
      · exact .inr (h1 u (List.mem_cons_self ..) c e).2
      · exact (tail us fun t ht => h1 t (List.mem_cons_of_mem _ ht)).1 c e
  · cases ws with
    | nil => exact Nat.zero_le _
    | cons u us =>
      have t := (tail us fun t ht => h1 t (List.mem_cons_of_mem _ ht)).2
      show (u ++ (us.map ([32] ++ ·)).flatten).length ≤ _
      rw [List.flatten_cons, List.length_append] at h2
      rw [List.length_append]
      rw [List.length_cons] at h3
      omega
theorem ix_tupK {X:Cx} {K:W.Frag} (e:X.K=K):IxR X (rIxT K):=e ▸ ix_tup
theorem Rw.get {H:Hp} : ∀ {vs:List V} {ws:List (List Nat)} {i:Nat} {x:V},Rw H vs ws→vs[i]? = some x → ∃ p t xs,x = .ref p∧H p=some (.tup (.str (T t)::xs))∧ws[i]? = some t
 | _,_,_,_,.nil,h=>by cases h
 | _,_,0,_,.cons a _,h=>by cases h;exact ⟨_,_,_,rfl,a,rfl⟩
 | _,_,i+1,_,.cons _ t,h=>t.get (i:=i) h
def sp_law_form_text (K:PySem.W.Frag):Sp:=fun vs H Q _=>∃ (p:Addr) (bits wd:Int) (f:Nat) (x:Str) (st:Bool) (W:Int→List (List Nat)→Prop) (d:Str),vs=[.ref p,.int bits]∧SpA H p wd f x st W d ∧ ∀ H' ws cf cs,Same H H'→W bits ws→Cl bits cf (f=32)→Cl bits cs (x=d)→Q (.str (T (jn [32] (ws++wLast wd f x cf cs st)))) H'
theorem ok_law_form_text {f:Addr} {fd:FuncData} (F:Fun K "_law_form_text" "_law_form_text" s_law_form_text f fd) (B:Blt mg) (C_law_word_rows:Has P w K mg base "_law_word_rows" 5 ["_law_spec", "_law_bits"] (sp_law_word_rows K)):FnOk P w K mg base CX0 6 f fd ["_law_spec", "_law_bits"] (sp_law_form_text K):=by classical
 refine F.ok sc_law_form_text (fun vs H Q E h=>?_) (fun cdv A outer s H vs Q E hr h=>?_)
 ·obtain ⟨p,bits,wd,f,x,st,W,d,rfl,hA,q⟩:=h
  rfl
 obtain ⟨p,bits,wd,f,x,st,W,d,rfl,hA,q⟩:=h
 refine ⟨_,pss_one (ps_ret (pe_bm PySem.F.plainAttrs_str PySem.F.slot_str_join PySem.F.type_str_join mt_joinT (pe_strT (l:=[32]) (by decide +kernel)) (pa_cons (pe_comp (cl:=[]) (fr:=[]) (is:=[]) rfl rfl trivial rfl trivial (by decide) (by decide +kernel) rfl (by decide +kernel) rfl (pi_list (pe_callH C_law_word_rows hr rfl (pa_cons (pv 0) (pa_cons (pv 1) (pa_nil))))) (fun _ _ _ _=>pifs_nil) (fun _ _ _ _=>pe_ix (ix_tupK (K:=K) rfl) (pv 0) (pe_int) (fun _ _=>rfl))) (pa_nil)))),?_⟩
 walk_at "st"
 walk_at "rd"
 refine ⟨p,bits,wd,f,x,st,W,d,rfl,hA,fun L H1 ws1 cf cs g1 w1 i5 i6 R1=>?_⟩
 have WT1:=hA.wt w1 cf cs
 have q':=fun H' g=>q H' ws1 cf cs g w1 i5 i6
 clear q
 generalize hw:ws1++wLast wd f x cf cs st=ws at *
 obtain ⟨vs,eL,rw'⟩:=R1
 have hl:=rw'.len
 have hl2:=WT1.2.2
 have hl3:=WT1.2.1
 refine r_kCompL (SqL.of eL) (small (by omega)) (fun i ys H'=>H'=H1∧ys=tsV (ws.take i)) ⟨rfl,rfl⟩ (fun i ys H' hi h=>?_) ?_ ?_
 ·obtain ⟨rfl,rfl⟩:=h
  exact ⟨SqL.of eL,by rw [show (tsV (ws.take i)).length=(ws.take i).length from List.length_map _,List.length_take];omega⟩
 ·rintro i y ys H' hy hi ⟨rfl,rfl⟩
  obtain ⟨p2,t,xs,rfl,e2,ht⟩:=rw'.get hy
  walk_at "rd"
  refine r_ixQ (v:=.str (T t)) (SqT.of e2) (atI_nat (j:=0) rfl) ?_
  refine nxC hi (And.intro rfl ?_)
  rw [List.take_add_one,ht]
  show tsV (ws.take i)++[V.str (T t)]=tsV (ws.take i++[t])
  unfold tsV;rw [List.map_append];rfl
 ·rintro ys H' ⟨rfl,rfl⟩ p3 H3 g3 e3
  rw [hl,List.take_length] at e3
  walk_at "rd"
  exact r_joinT e3 (by show _+ws.length*1≤16777216;omega) (q' _ (g1.trans g3))
def sp_law_tail_is (K:PySem.W.Frag):Sp:=fun vs H Q _=>∃ (o p C:Addr) (wd:Int) (f:Nat) (x:Str) (st:Bool) (more:List (Str × V)) (W:Int→List (List Nat)→Prop) (d:Str),vs=[.ref o,.ref p]∧FormAt K H o C wd f x st more∧SpA H p wd f x st W d∧Q (.bl true) H
theorem ok_law_tail_is {f : Addr} {fd : FuncData} (F : Fun K "_law_tail_is" "_law_tail_is" s_law_tail_is f fd) (B : Blt mg) (C_law_text_is : Has P w K mg base "_law_text_is" 1 ["_law_found", "_law_due"] (sp_law_text_is K)) (C_law_whole : Has P w K mg base "_law_whole" 1 ["_law_thing"] (sp_law_whole K)) : FnOk P w K mg base CX0 2 f fd ["_law_form", "_law_spec"] (sp_law_tail_is K) := by classical
  refine F.ok sc_law_tail_is (fun vs H Q E h => ?_) (fun cdv A outer s H vs Q E hr h => ?_)
  · obtain ⟨o, p, C, wd, f, x, st, more, W, d, rfl, F0, hA, q⟩ := h
    rfl
  obtain ⟨o, p, C, wd, f, x, st, more, W, d, rfl, F0, hA, q⟩ := h
  refine ⟨_, pss_cons (ps_if (PW.pt (pw_or (pt_not (pt_val (pe_callH C_law_whole hr rfl (pa_cons (pe_fld (pv 0) rfl) (pa_nil))))) (pw_or (pt_cmpR op_ne (pe_fld (pv 0) rfl) (pe_ix ix_tup (pv 1) (pe_un un_neg (pe_int)) (fun _ _ => rfl)) (nomark _)) (pw_or1 (pt_not (pt_val (pe_callH C_law_text_is hr rfl (pa_cons (pe_fld (pv 0) rfl) (pa_cons (pe_ix ix_tup (pv 1) (pe_un un_neg (pe_int)) (fun _ _ => rfl)) (pa_nil)))))))))) (pss_one (ps_ret (pe_bl))) (pss_nil))
    (pss_one (ps_ret (pe_and (pe_callH C_law_text_is hr rfl (pa_cons (pe_fld (pv 0) rfl) (pa_cons (pe_ix ix_tup (pv 1) (pe_un un_neg (pe_int)) (fun _ _ => rfl)) (pa_nil)))) (pe_and (pe_callBH call_isi B.z_isinstance rfl bo_isinstance (pa_cons (pe_fld (pv 0) rfl) (pa_cons (pe_bltn rfl B.z_bool bo_bool (v := .ty "bool") rfl) (pa_nil)))) (pe_one (pe_cmpR op_eq (pe_fld (pv 0) rfl) (pe_ix ix_tup (pv 1) (pe_un un_neg (pe_int)) (fun _ _ => rfl)) (nomark _))))))), ?_⟩
  walk_at "st"
  rcases hA with ⟨fg, pl, b, sn, z, m, pt, wy, hp, ok, sg3, hs, rfl, rfl⟩ | ⟨sg, lo, hi, hp, se, wr, hs, rfl, rfl⟩ | ⟨L0, ns, hp, hL, nm, n1, n12, wc, hs, rfl, rfl⟩
  · unfold SpecN at hp
    cases st with
    | true =>
      walk_at "rd"
      exact q
    | false =>
      walk_at "rd"
      exact q
  · unfold SpecW at hp
    cases st with
    | true =>
      walk_at "rd"
      exact q
    | false =>
      walk_at "rd"
      exact q
  · unfold SpecC at hp
    cases st with
    | true =>
      walk_at "rd"
      exact q
    | false =>
      walk_at "rd"
      exact q
theorem dts_bl {K : W.Frag} {H : Hp} : ∀ (bs : List Bool), Dts K H (bs.map V.bl) (bs.map PyData.bool) ∧ PyData.canLayAll0 (bs.map PyData.bool) = true ∧ PyData.depthAll (bs.map PyData.bool) ≤ 3
  | [] => ⟨.nil, by simp [PyData.canLayAll0], by simp [PyData.depthAll]⟩
  | b :: bs => by
    obtain ⟨h1, h2, h3⟩ := dts_bl (K := K) (H := H) bs
    exact ⟨.cons (.bl b) h1, by simp [PyData.canLayAll0, PyData.canLay0, h2], by simp only [List.map_cons, PyData.depthAll, PyData.depth]; omega⟩
theorem list_bl {K:W.Frag} {H:Hp} {p:Addr} {bs:List Bool} (e:H p=some (.lst (bs.map V.bl))):Dt K H (.ref p) (.list (bs.map PyData.bool))∧(PyData.list (bs.map PyData.bool)).canLay0=true∧(PyData.list (bs.map PyData.bool)).depth≤20:=by
 obtain ⟨a,b,c⟩:=dts_bl (K:=K) (H:=H) bs
 exact ⟨.lst (SqL.of e) a,by simp [PyData.canLay0,b],by simp only [PyData.depth];omega⟩
structure IsF (K:W.Frag) (c cN cW cC cF:Addr) (b1 b2 b3:Bool):Prop where
 cl:Cls K c
 ha:W.findIn K (.ref c) "__class__" = some (some (.builtin "object.__class__"))
 hn:W.specialIn K (.builtin "object.__class__") "__get__" = some (some (.builtin "getset_descriptor.__get__"))
 ht:W.takesIn K (.builtin "object.__class__")=some true
 hm:W.mroIn K c (.type "object")=some true
 k1:W.kitOne K (.ref c) (.ref cN)=some b1
 k2:W.kitOne K (.ref c) (.ref cW)=some b2
 k3:W.kitOne K (.ref c) (.ref cC)=some b3
 k4:W.kitOne K (.ref c) (.ref cF)=some true
theorem IsF.ty {K:W.Frag} {c cN cW cC cF o:Addr} {b1 b2 b3:Bool} {H:Hp} {wd:Int} {f:Nat} {x:Str} {st:Bool} {more:List (Str × V)} (n:IsF K c cN cW cC cF b1 b2 b3) (F:FormAt K H o c wd f x st more):TyOf K H (.ref o) (.ref c):=let ⟨_,e⟩:=F.at_;.ins e n.cl n.ha n.hn n.ht n.hm
def sp_law_class_is (K:PySem.W.Frag) (CN CF CC:Addr):Sp:=fun vs H Q _=>(∃ (o p:Addr) (wd:Int) (f:Nat) (x:Str) (st:Bool) (more:List (Str × V)) (W:Int→List (List Nat)→Prop) (d:Str),vs=[.ref o,.ref p]∧FormAt K H o CN wd f x st more∧SpAN H p wd f x st W d ∧ ∀ H',Same H H'→Q (.bl true) H') ∨
 (∃ (o p:Addr) (wd:Int) (f:Nat) (x:Str) (st:Bool) (more:List (Str × V)) (W:Int→List (List Nat)→Prop) (d:Str),vs=[.ref o,.ref p]∧FormAt K H o CF wd f x st more∧SpAW H p wd f x st W d ∧ ∀ H',Same H H'→Q (.bl true) H') ∨
 (∃ (o p:Addr) (wd:Int) (f:Nat) (x:Str) (st:Bool) (more:List (Str × V)) (W:Int→List (List Nat)→Prop) (d:Str),vs=[.ref o,.ref p]∧FormAt K H o CC wd f x st more∧SpAC H p wd f x st W d ∧ ∀ H',Same H H'→Q (.bl true) H')
theorem ok_law_class_is {f:Addr} {fd:FuncData} (F:Fun K "_law_class_is" "_law_class_is" s_law_class_is f fd) (B:Blt mg) {c_NumberForm:Addr} {c_WordForm:Addr} {c_ChoiceForm:Addr}{c_Form:Addr} (m_NumberForm:mg "NumberForm" = some (.ref c_NumberForm)) (m_WordForm:mg "WordForm" = some (.ref c_WordForm)) (m_ChoiceForm:mg "ChoiceForm" = some (.ref c_ChoiceForm)) (m_Form:mg "Form" = some (.ref c_Form)) (isn:IsF K c_NumberForm c_NumberForm c_WordForm c_ChoiceForm c_Form true false false) (isw:IsF K c_WordForm c_NumberForm c_WordForm c_ChoiceForm c_Form false true false) (isc:IsF K c_ChoiceForm c_NumberForm c_WordForm c_ChoiceForm c_Form false false true):FnOk P w K mg base CX0 1 f fd ["_law_form", "_law_spec"] (sp_law_class_is K c_NumberForm c_WordForm c_ChoiceForm):=by classical
 refine F.ok sc_law_class_is (fun vs H Q E h=>?_) (fun cdv A outer s H vs Q E hr h=>?_)
 ·obtain ⟨o,p,wd,f,x,st,more,W,d,rfl,F0,hA,q⟩ | ⟨o,p,wd,f,x,st,more,W,d,rfl,F0,hA,q⟩ | ⟨o,p,wd,f,x,st,more,W,d,rfl,F0,hA,q⟩:=h
  all_goals rfl
 refine ⟨_,pss_cons (ps_set (i:=2) sc_law_class_is.nd rfl (Or.inl rfl) (pe_lst (pa_cons (pe_callBH call_isi B.z_isinstance rfl bo_isinstance (pa_cons (pv 0) (pa_cons (pe_glob rfl m_NumberForm (v:=.ref c_NumberForm) rfl) (pa_nil)))) (pa_cons (pe_callBH call_isi B.z_isinstance rfl bo_isinstance (pa_cons (pv 0) (pa_cons (pe_glob rfl m_WordForm (v:=.ref c_WordForm) rfl) (pa_nil)))) (pa_cons (pe_callBH call_isi B.z_isinstance rfl bo_isinstance (pa_cons (pv 0) (pa_cons (pe_glob rfl m_ChoiceForm (v:=.ref c_ChoiceForm) rfl) (pa_nil)))) (pa_nil))))))
  (pss_one (ps_ret (pe_and (pe_callBH call_isi B.z_isinstance rfl bo_isinstance (pa_cons (pv 0) (pa_cons (pe_glob rfl m_Form (v:=.ref c_Form) rfl) (pa_nil)))) (pe_one (pe_cmpR (op_eqD (hu20 hr)) (pv 2) (pe_lst (pa_cons (pe_cmpR op_eq (pe_ix ix_tup (pv 1) (pe_int) (fun _ _=>rfl)) (pe_strT (l:=[110,117,109,98,101,114]) (by decide +kernel)) (nomark _)) (pa_cons (pe_cmpR op_eq (pe_ix ix_tup (pv 1) (pe_int) (fun _ _=>rfl)) (pe_strT (l:=[119,111,114,100]) (by decide +kernel)) (nomark _)) (pa_cons (pe_cmpR op_eq (pe_ix ix_tup (pv 1) (pe_int) (fun _ _=>rfl)) (pe_strT (l:=[99,104,111,105,99,101]) (by decide +kernel)) (nomark _)) (pa_nil))))) (nomark _)))))),?_⟩
 obtain ⟨o,p,wd,f,x,st,more,W,d,rfl,F0,hA,q⟩ | ⟨o,p,wd,f,x,st,more,W,d,rfl,F0,hA,q⟩ | ⟨o,p,wd,f,x,st,more,W,d,rfl,F0,hA,q⟩:=h
 all_goals walk_at "st"
 ·obtain ⟨fg,pl,b,sn,z,m,pt,wy,hp,ok,sg3,hs,rfl,rfl⟩:=hA
  unfold SpecN at hp
  have T0:=isn.ty F0
  walk_at "rd"
  refine r_isi T0 ⟨"", .inr ⟨_,rfl⟩⟩ isn.k1 ?_
  walk_at "rd"
  refine r_isi T0 ⟨"", .inr ⟨_,rfl⟩⟩ isn.k2 ?_
  walk_at "rd"
  refine r_isi T0 ⟨"", .inr ⟨_,rfl⟩⟩ isn.k3 ?_
  walk_at "rd"
  rename_i l1 H1 g1 e1
  refine r_isi (isn.ty (F0.same g1)) ⟨"", .inr ⟨_,rfl⟩⟩ isn.k4 ?_
  walk_at "rd"
  rename_i l2 H2 g2 e2
  obtain ⟨t1,t2,t3⟩:=list_bl (K:=K) (bs:=[true,false,false]) (g2.at e1)
  obtain ⟨u1,u2,u3⟩:=list_bl (K:=K) (p:=l2) (H:=H2) (bs:=[true,false,false]) e2
  exact r_eqD t1 u1 t2 t3 (q _ (g1.trans g2))
 ·obtain ⟨sg,lo,hi,hp,se,wr,hs,rfl,rfl⟩:=hA
  unfold SpecW at hp
  have T0:=isw.ty F0
  walk_at "rd"
  refine r_isi T0 ⟨"", .inr ⟨_,rfl⟩⟩ isw.k1 ?_
  walk_at "rd"
  refine r_isi T0 ⟨"", .inr ⟨_,rfl⟩⟩ isw.k2 ?_
  walk_at "rd"
  refine r_isi T0 ⟨"", .inr ⟨_,rfl⟩⟩ isw.k3 ?_
  walk_at "rd"
  rename_i l1 H1 g1 e1
  refine r_isi (isw.ty (F0.same g1)) ⟨"", .inr ⟨_,rfl⟩⟩ isw.k4 ?_
  walk_at "rd"
  rename_i l2 H2 g2 e2
  obtain ⟨t1,t2,t3⟩:=list_bl (K:=K) (bs:=[false,true,false]) (g2.at e1)
  obtain ⟨u1,u2,u3⟩:=list_bl (K:=K) (p:=l2) (H:=H2) (bs:=[false,true,false]) e2
  exact r_eqD t1 u1 t2 t3 (q _ (g1.trans g2))
 ·obtain ⟨L0,ns,hp,hL,nm,n1,n12,wc,hs,rfl,rfl⟩:=hA
  unfold SpecC at hp
  have T0:=isc.ty F0
  walk_at "rd"
  refine r_isi T0 ⟨"", .inr ⟨_,rfl⟩⟩ isc.k1 ?_
  walk_at "rd"
  refine r_isi T0 ⟨"", .inr ⟨_,rfl⟩⟩ isc.k2 ?_
  walk_at "rd"
  refine r_isi T0 ⟨"", .inr ⟨_,rfl⟩⟩ isc.k3 ?_
  walk_at "rd"
  rename_i l1 H1 g1 e1
  refine r_isi (isc.ty (F0.same g1)) ⟨"", .inr ⟨_,rfl⟩⟩ isc.k4 ?_
  walk_at "rd"
  rename_i l2 H2 g2 e2
  obtain ⟨t1,t2,t3⟩:=list_bl (K:=K) (bs:=[false,false,true]) (g2.at e1)
  obtain ⟨u1,u2,u3⟩:=list_bl (K:=K) (p:=l2) (H:=H2) (bs:=[false,false,true]) e2
  exact r_eqD t1 u1 t2 t3 (q _ (g1.trans g2))
theorem eqVs_two (a b:Int):eqVs [.int a,.int b] [.int a,.int b]=true:=by
 unfold eqVs
 simp [List.range,List.range.loop,eqV]
theorem eqVs_five (a b c d:Int) (s:Str):eqVs [.int a,.int b,.int c,.str s,.int d] [.int a,.int b,.int c,.str s,.int d]=true:=by
 unfold eqVs
 simp [List.range,List.range.loop,eqV]
def FmN (K:W.Frag) (H:Hp) (o p CN:Addr):Prop:=∃ (fg pl b:Int) (sn:Str) (z:Int) (m m' pt:Nat) (wy:Str) (wd:Int) (f:Nat) (x:Str) (st:Bool),FormAt K H o CN wd f x st (nmore fg pl b sn z m' pt wy)∧SpecN H p fg pl b sn z m pt wy wd f x st∧NumS fg pl b sn z m pt wy wd f x∧Sg3 m pt f∧(0 < z→m'=m)∧(st=true→shortN pl sn≤wd)
def FmW (K:W.Frag) (H:Hp) (o p CF:Addr):Prop:=∃ (sg:List Nat) (lo hi wd:Int) (f:Nat) (x:Str) (st:Bool),FormAt K H o CF wd f x st (wmore sg lo hi)∧SpecW H p sg lo hi wd f x st∧SgE sg∧WdR lo hi wd f x∧(st=true→lo≤wd)
def FmC (K:W.Frag) (H:Hp) (o p CC:Addr):Prop:=∃ (L L0:Addr) (ns:List (List Nat)) (wd:Int) (f:Nat) (x:Str) (st:Bool),FormAt K H o CC wd f x st (cmore L)∧H L=some (.lst (tsV ns))∧SpecC H p L0 wd f x st∧H L0=some (.lst (tsV ns))∧Nms ns∧1≤ns.length∧ns.length≤12∧WdC wd f x∧(st=true → ∃ t ∈ ns,(t.length:Int)≤wd)
def sp_law_form_is (K:W.Frag) (CN CF CC:Addr):Sp:=fun vs H Q _=>(∃ o p:Addr,vs=[.ref o,.ref p]∧FmN K H o p CN ∧ ∀ H',Same H H'→Q (.bl true) H')∨(∃ o p:Addr,vs=[.ref o,.ref p]∧FmW K H o p CF ∧ ∀ H',Same H H'→Q (.bl true) H')∨(∃ o p:Addr,vs=[.ref o,.ref p]∧FmC K H o p CC ∧ ∀ H',Same H H'→Q (.bl true) H')
theorem ok_law_form_is {f:Addr} {fd:FuncData} (F:Fun K "_law_form_is" "_law_form_is" s_law_form_is f fd) (B:Blt mg) {c_NumberForm:Addr} {c_WordForm:Addr} {c_ChoiceForm:Addr} (C_law_text_is:Has P w K mg base "_law_text_is" 1 ["_law_found", "_law_due"] (sp_law_text_is K)) (C_law_class_is:Has P w K mg base "_law_class_is" 1 ["_law_form", "_law_spec"] (sp_law_class_is K c_NumberForm c_WordForm c_ChoiceForm)) (C_law_tail_is:Has P w K mg base "_law_tail_is" 2 ["_law_form", "_law_spec"] (sp_law_tail_is K)) (C_law_whole:Has P w K mg base "_law_whole" 1 ["_law_thing"] (sp_law_whole K)):FnOk P w K mg base CX0 3 f fd ["_law_form", "_law_spec"] (sp_law_form_is K c_NumberForm c_WordForm c_ChoiceForm):=by classical
 refine F.ok sc_law_form_is (fun vs H Q E h=>?_) (fun cdv A outer s H vs Q E hr h=>?_)
 ·obtain ⟨o,p,rfl,⟨fg,pl,b,sn,z,m,m',pt,wy,wd,f,x,st,F0,hp,ok,sg3,hz,hs⟩,q⟩ | ⟨o,p,rfl,⟨sg,lo,hi,wd,f,x,st,F0,hp,se,wr,hs⟩,q⟩ | ⟨o,p,rfl,⟨L,L0,ns,wd,f,x,st,F0,hL,hp,hL0,nm,n1,n12,wc,hs⟩,q⟩:=h
  all_goals rfl
 refine ⟨_,pss_cons (ps_if (PW.pt (pw_or (pt_not (pt_val (pe_callH C_law_class_is hr rfl (pa_cons (pv 0) (pa_cons (pv 1) (pa_nil)))))) (pw_or1 (pt_not (pt_val (pe_callH C_law_tail_is hr rfl (pa_cons (pv 0) (pa_cons (pv 1) (pa_nil))))))))) (pss_one (ps_ret (pe_bl))) (pss_nil))
  (pss_cons (ps_if (pt_cmpR op_eq (pe_ix ix_tup (pv 1) (pe_int) (fun _ _=>rfl)) (pe_strT (l:=[99,104,111,105,99,101]) (by decide +kernel)) (nomark _)) (pss_one (ps_ret (pe_and (pe_callBH call_isi B.z_isinstance rfl bo_isinstance (pa_cons (pe_fld (pv 0) rfl) (pa_cons (pe_bltn rfl B.z_list bo_list (v:=.ty "list") rfl) (pa_nil)))) (pe_one (pe_cmpR (op_eqLs (hu_lt hr)) (pe_fld (pv 0) rfl) (pe_ix ix_tup (pv 1) (pe_int) (fun _ _=>rfl)) (nomark _)))))) (pss_nil))
  (pss_cons (ps_if (pt_cmpR op_eq (pe_ix ix_tup (pv 1) (pe_int) (fun _ _=>rfl)) (pe_strT (l:=[119,111,114,100]) (by decide +kernel)) (nomark _)) (pss_cons (ps_if (PW.pt (pw_or (pt_not (pt_val (pe_callH C_law_whole hr rfl (pa_cons (pe_fld (pv 0) rfl) (pa_nil))))) (pw_or1 (pt_not (pt_val (pe_callH C_law_whole hr rfl (pa_cons (pe_fld (pv 0) rfl) (pa_nil)))))))) (pss_one (ps_ret (pe_bl))) (pss_nil))
  (pss_one (ps_ret (pe_and (pe_callH C_law_text_is hr rfl (pa_cons (pe_fld (pv 0) rfl) (pa_cons (pe_ix ix_tup (pv 1) (pe_int) (fun _ _=>rfl)) (pa_nil)))) (pe_one (pe_cmpR (op_eqT (hu_lt hr)) (pe_tup (pa_cons (pe_fld (pv 0) rfl) (pa_cons (pe_fld (pv 0) rfl) (pa_nil)))) (pe_slice sl_tup (pv 1) (po_some (pe_int)) (po_some (pe_int))) (nomark _))))))) (pss_nil))
  (pss_cons (ps_for PassesOwn.never rfl (pi_tup (pe_tup (pa_cons (pe_fld (pv 0) rfl) (pa_cons (pe_fld (pv 0) rfl) (pa_cons (pe_fld (pv 0) rfl) (pa_cons (pe_fld (pv 0) rfl) (pa_nil))))))) (pg_name (i:=2) sc_law_form_is.nd rfl (Or.inl rfl)) (pss_one (ps_if (pt_not (pt_val (pe_callH C_law_whole hr rfl (pa_cons (pv 2) (pa_nil))))) (pss_one (ps_ret (pe_bl))) (pss_nil))))
  (pss_cons (ps_if (pt_cmpR (op_neT (hu_lt hr)) (pe_tup (pa_cons (pe_fld (pv 0) rfl) (pa_cons (pe_fld (pv 0) rfl) (pa_cons (pe_fld (pv 0) rfl) (pa_cons (pe_fld (pv 0) rfl) (pa_cons (pe_fld (pv 0) rfl) (pa_nil))))))) (pe_slice sl_tup (pv 1) (po_some (pe_int)) (po_some (pe_int))) (nomark _)) (pss_one (ps_ret (pe_bl))) (pss_nil))
  (pss_cons (ps_if (PW.pt (pw_and (pt_cmpR op_gt (pe_fld (pv 0) rfl) (pe_int) (nomark _)) (pw_and1 (pt_not (pt_val (pe_callH C_law_text_is hr rfl (pa_cons (pe_fld (pv 0) rfl) (pa_cons (pe_ix ix_tup (pv 1) (pe_int) (fun _ _=>rfl)) (pa_nil))))))))) (pss_one (ps_ret (pe_bl))) (pss_nil))
  (pss_one (ps_ret (pe_and (pe_callH C_law_text_is hr rfl (pa_cons (pe_fld (pv 0) rfl) (pa_cons (pe_ix ix_tup (pv 1) (pe_int) (fun _ _=>rfl)) (pa_nil)))) (pe_one (pe_callH C_law_text_is hr rfl (pa_cons (pe_fld (pv 0) rfl) (pa_cons (pe_ix ix_tup (pv 1) (pe_int) (fun _ _=>rfl)) (pa_nil))))))))))))),?_⟩
 obtain ⟨o,p,rfl,⟨fg,pl,b,sn,z,m,m',pt,wy,wd,f,x,st,F0,hp,ok,sg3,hz,hs⟩,q⟩ | ⟨o,p,rfl,⟨sg,lo,hi,wd,f,x,st,F0,hp,se,wr,hs⟩,q⟩ | ⟨o,p,rfl,⟨L,L0,ns,wd,f,x,st,F0,hL,hp,hL0,nm,n1,n12,wc,hs⟩,q⟩:=h
 all_goals walk_at "st"
 ·walk_at "rd"
  refine .inl ⟨o,p,wd,f,x,st,_,_,_,rfl,F0,⟨fg,pl,b,sn,z,m,pt,wy,hp,ok,sg3,hs,rfl,rfl⟩,fun H1 g1=>?_⟩
  have F1:=F0.same g1
  have hp1:SpecN H1 p fg pl b sn z m pt wy wd f x st:=g1.at hp
  walk_at "rd"
  refine ⟨o,p,_,wd,f,x,st,_,_,_,rfl,F1,.inl ⟨fg,pl,b,sn,z,m,pt,wy,hp1,ok,sg3,hs,rfl,rfl⟩,?_⟩
  unfold SpecN at hp hp1
  walk_at "rd"
  rename_i p2 H2 g2 e2
  have F2:=F1.same g2
  have hp2:=g2.at hp1
  refine r_kForT (SqT.of e2) (fun i σ H'=>H'=H2 ∧ ∃ r:Option V,σ=[some (.ref o),some (.ref p),r]) ⟨rfl,none,rfl⟩ (fun i σ H' _ z=>by rw [z.1];exact SqT.of e2) ?_ ?_
  ·rintro i v σ _ hv ⟨rfl,r,rfl⟩
   have : ∃ k:Int,v = .int k:=by
    have:=List.mem_of_getElem? hv
    simp only [List.mem_cons,List.not_mem_nil,or_false] at this
    rcases this with rfl | rfl | rfl | rfl <;> exact ⟨_,rfl⟩
   obtain ⟨k,rfl⟩:=this
   walk_at "rd"
   exact ⟨rfl,_,rfl⟩
  ·rintro σ _ ⟨rfl,r,rfl⟩
   walk_at "rd"
   rename_i p3 H3 g3 e3
   refine r_slT (n:=13) (g3.at hp2) rfl (by decide) fun p4 H4 g4 e4=>?_
   have e4':H4 p4=some (.tup [.int fg,.int pl,.int b,.str sn,.int z]):=e4
   have hp4:=g4.at (g3.at hp2)
   have F4:=(F2.same g3).same g4
   have gg:Same H H4:=g1.trans (g2.trans (g3.trans g4))
   refine r_neQ (SqT.of (g4.at e3)) (SqT.of e4') rfl rfl ?_
   rw [eqVs_five]
   by_cases z0:0 < z
   ·obtain rfl:=hz z0
    walk_at "rd"
    exact q _ gg
   ·walk_at "rd"
    exact q _ gg
 ·walk_at "rd"
  refine .inr (.inl ⟨o,p,wd,f,x,st,_,_,_,rfl,F0,⟨sg,lo,hi,hp,se,wr,hs,rfl,rfl⟩,fun H1 g1=>?_⟩)
  have F1:=F0.same g1
  have hp1:SpecW H1 p sg lo hi wd f x st:=g1.at hp
  walk_at "rd"
  refine ⟨o,p,_,wd,f,x,st,_,_,_,rfl,F1,.inr (.inl ⟨sg,lo,hi,hp1,se,wr,hs,rfl,rfl⟩),?_⟩
  unfold SpecW at hp hp1
  walk_at "rd"
  rename_i p3 H3 g3 e3
  refine r_slT (n:=8) (g3.at hp1) rfl (by decide) fun p4 H4 g4 e4=>?_
  have e4':H4 p4=some (.tup [.int lo,.int hi]):=e4
  refine r_eqQ (SqT.of (g4.at e3)) (SqT.of e4') rfl rfl ?_
  rw [eqVs_two]
  exact q _ (g1.trans (g3.trans g4))
 ·walk_at "rd"
  refine .inr (.inr ⟨o,p,wd,f,x,st,_,_,_,rfl,F0,⟨L0,ns,hp,hL0,nm,n1,n12,wc,hs,rfl,rfl⟩,fun H1 g1=>?_⟩)
  have F1:=F0.same g1
  have hp1:SpecC H1 p L0 wd f x st:=g1.at hp
  have hL1:=g1.at hL
  have hL01:=g1.at hL0
  walk_at "rd"
  refine ⟨o,p,_,wd,f,x,st,_,_,_,rfl,F1,.inr (.inr ⟨L0,ns,hp1,hL01,nm,n1,n12,wc,hs,rfl,rfl⟩),?_⟩
  unfold SpecC at hp hp1
  walk_at "rd"
  rw [decide_eq_true (rfl:ns=ns)]
  exact q _ g1
local macro_rules | `(tactic| walk_at "rdf")=>`(tactic| repeat' (first | ((with_reducible refine' r_kLstF ?hz ?_);(case hz=>exact small (by simp only [List.length_cons,List.length_nil];decide));intro l' n') | walk_at "rd1"))
local macro_rules | `(tactic| walk_at "rdc")=>`(tactic| (with_reducible refine r_forK ?_))
def NL (H H':Hp) (l:Addr) (ws:List (List Nat)):Prop:=Same H H'∧H l=none∧H' l=some (.lst (tsV ws))
theorem NL.mk {H H1:Hp} {l:Addr} {ws:List (List Nat)} {xs:List V} (g:Same H H1) (n:H1 l=none) (e:xs=tsV ws):NL H (upd H1 l (.lst xs)) l ws:=by
 have n0:H l=none:=by
  cases hl:H l with
  | none=>rfl
  | some u=>rw [g.at hl] at n;cases n
 exact ⟨same_upd g n0,n0,by rw [upd_same,e]⟩
theorem NL.then {H H1 H2:Hp} {l:Addr} {ws:List (List Nat)} (h:NL H H1 l ws) (g:Same H1 H2):NL H H2 l ws:=⟨h.1.trans g,h.2.1,g.at h.2.2⟩
theorem tsV_app (a b:List (List Nat)):tsV a++tsV b=tsV (a++b):=by unfold tsV;rw [List.map_append]
theorem nl_ext {H H1 H2:Hp} {l b:Addr} {ws ts:List (List Nat)} {Q:VK} (h:NL H H1 l ws) (g:Same H1 H2) (e:H2 b=some (.lst (tsV ts))) (hz:ws.length+ts.length≤900) (q : ∀ H3,NL H H3 l (ws++ts)→Q .non H3):rExtend (.ref l) [.ref b] H2 Q:=by
 have tl : ∀ u:List (List Nat),(tsV u).length=u.length:=fun u=>List.length_map _
 refine ⟨l,b,_,_,rfl,rfl,g.at h.2.2,e,small (by rw [tl,tl];omega),q _ ⟨same_upd (h.1.trans g) h.2.1,h.2.1,?_⟩⟩
 rw [upd_same,tsV_app]
theorem nl_app {H H1 H2:Hp} {l:Addr} {ws:List (List Nat)} {t:List Nat} {Q:VK} (h:NL H H1 l ws) (g:Same H1 H2) (hz:ws.length≤900) (q : ∀ H3,NL H H3 l (ws++[t])→Q .non H3):rAppend (.ref l) [.str (T t)] H2 Q:=by
 have tl : ∀ u:List (List Nat),(tsV u).length=u.length:=fun u=>List.length_map _
 refine r_append (g.at h.2.2) (small1000 (by rw [tl];omega)) (q _ ⟨same_upd (h.1.trans g) h.2.1,h.2.1,?_⟩)
 rw [upd_same]
 show some (HO.lst (tsV ws++tsV [t]))=_
 rw [tsV_app]
def sp_clause (K:W.Frag):Sp:=fun vs H Q _=>∃ n w u:Str,vs=[.str n,.str w,.str u] ∧ ∀ l H',NL H H' l (opt (!decide (w=u)) [Lt n,Lt w])→Q (.ref l) H'
theorem c_clause {K:W.Frag} {n w u:Str} {H:Hp} {Q:VK} {E:XK} (q : ∀ l H',NL H H' l (opt (!decide (w=u)) [Lt n,Lt w])→Q (.ref l) H'):sp_clause K ([.str n,.str w,.str u]++[]) H Q E:=⟨n,w,u,rfl,q⟩
theorem ok_clause {f:Addr} {fd:FuncData} (F:Fun K "clause" "clause" s_clause f fd) (B:Blt mg):FnOk P w K mg base CX0 1 f fd ["name", "word", "untold"] (sp_clause K):=by
 refine F.ok sc_clause (fun vs H Q E h=>?_) (fun cdv A outer s H vs Q E hr h=>?_)
 ·obtain ⟨n,w,u,rfl,q⟩:=h
  rfl
 obtain ⟨n,w,u,rfl,q⟩:=h
 refine ⟨_,pss_one (ps_ret (pe_ifExp (pt_cmpR op_eq (pv 1) (pv 2) (nomark _)) (pe_lst (pa_nil)) (pe_lst (pa_cons (pv 0) (pa_cons (pv 1) (pa_nil)))))),?_⟩
 walk_at "st"
 walk_at "rdf"
 ·rename_i hc l' n'
  refine q _ _ (NL.mk (Same.refl _) n' ?_)
  rw [decide_eq_true hc];rfl
 ·rename_i hc l' n'
  refine q _ _ (NL.mk (Same.refl _) n' ?_)
  rw [decide_eq_false hc]
  show [V.str n,V.str w]=[V.str (T (Lt n)),V.str (T (Lt w))]
  rw [T_Lt,T_Lt]
def sp_sign_word (K:W.Frag):Sp:=fun vs H Q _=>∃ c:Nat,vs=[.str (T [c])]∧Q (.str (T (sw c))) H
theorem c_sword2 {K:W.Frag} {c:Nat} {H:Hp} {Q:VK} {E:XK} (q:Q (.str (T (sw c))) H):sp_sign_word K ([.str (T [c])]++[]) H Q E:=⟨c,rfl,q⟩
local macro_rules | `(tactic| walk_at "rdc")=>`(tactic| (with_reducible refine c_sword2 ?_))
theorem ok_sign_word {f:Addr} {fd:FuncData} (F:Fun K "sign_word" "sign_word" s_sign_word f fd) (B:Blt mg):FnOk P w K mg base CX0 1 f fd ["sign"] (sp_sign_word K):=by
 refine F.ok sc_sign_word (fun vs H Q E h=>?_) (fun cdv A outer s H vs Q E hr h=>?_)
 ·obtain ⟨c,rfl,q⟩:=h
  rfl
 obtain ⟨c,rfl,q⟩:=h
 refine ⟨_,pss_one (ps_ret (pe_ifExp (pt_cmpR op_eq (pv 0) (pe_strT (l:=[32]) (by decide +kernel)) (nomark _)) (pe_strT (l:=[98,108,97,110,107]) (by decide +kernel)) (pv 0))),?_⟩
 walk_at "st"
 walk_at "rd"
 ·rename_i hc
  have c32:c=32:=by simpa using hc
  subst c32
  rw [show sw 32=[98,108,97,110,107] from by decide +kernel] at q
  exact q
 ·rename_i hc
  have c32:c≠32:=fun h=>hc (by rw [h])
  rw [show sw c=[c] from if_neg c32] at q
  exact q
def sp_signs_word (K:W.Frag):Sp:=fun vs H Q _=>∃ rs:List Nat,vs=[.str (T rs)]∧rs.length≤200∧Q (.str (T (swd rs))) H
theorem ok_signs_word {f:Addr} {fd:FuncData} (F:Fun K "signs_word" "signs_word" s_signs_word f fd) (B:Blt mg) {t_SIGN_SETS:Addr} (g_SIGN_SETS:mg "SIGN_SETS" = some (.ref t_SIGN_SETS))(ss:SgSets w K t_SIGN_SETS) (ks:KDs w K t_SIGN_SETS ["lower", "upper", "figures", "all"]):FnOk P w K mg base CX0 1 f fd ["signs"] (sp_signs_word K):=by classical
 refine F.ok sc_signs_word (fun vs H Q E h=>?_) (fun cdv A outer s H vs Q E hr h=>?_)
 ·obtain ⟨rs,rfl,h2,q⟩:=h
  rfl
 obtain ⟨rs,rfl,h2,q⟩:=h
 refine ⟨_,pss_cons (ps_for PassesOwn.never rfl (pi_keys (pe_glob rfl g_SIGN_SETS (v:=.ref t_SIGN_SETS) rfl)) (pg_name (i:=1) sc_signs_word.nd rfl (Or.inl rfl)) (pss_one (ps_if (pt_cmpR op_eq (pe_ix ix_kdt (pe_glob rfl g_SIGN_SETS (v:=.ref t_SIGN_SETS) rfl) (pv 1) (fun _ _=>rfl)) (pv 0) (nomark _)) (pss_one (ps_ret (pv 1))) (pss_nil))))
  (pss_one (ps_ret (pe_op op_addS (pe_strT (l:=[61]) (by decide +kernel)) (pv 0)))),?_⟩
 walk_at "st"
 walk_at "rd"
 refine r_kForK ks (fun i σ H'=>H'=H∧(∀ j < i,∀ n v,KAt j n v→rs≠Lt v) ∧ ∃ r:Option V,σ=[some (.str (T rs)),r]) ⟨rfl,(fun j hj=>absurd hj (Nat.not_lt_zero _)),none,rfl⟩ ?_ ?_
 ·rintro i y σ H1 hy ⟨rfl,nj,r,rfl⟩
  have hx : ∃ v:Str,KName y v∧KAt i y v:=by
   match i,hy with
   | 0,hy=>cases hy;exact ⟨_,.inl ⟨rfl,rfl⟩,.inl ⟨rfl,rfl,rfl⟩⟩
   | 1,hy=>cases hy;exact ⟨_,.inr (.inl ⟨rfl,rfl⟩),.inr (.inl ⟨rfl,rfl,rfl⟩)⟩
   | 2,hy=>cases hy;exact ⟨_,.inr (.inr (.inl ⟨rfl,rfl⟩)),.inr (.inr (.inl ⟨rfl,rfl,rfl⟩))⟩
   | 3,hy=>cases hy;exact ⟨_,.inr (.inr (.inr ⟨rfl,rfl⟩)),.inr (.inr (.inr ⟨rfl,rfl,rfl⟩))⟩
   | (k+4),hy=>cases hy
  obtain ⟨v,hk,ha⟩:=hx
  have step:(¬ rs=Lt v) → ∀ j < i+1,∀ n v,KAt j n v→rs≠Lt v:=fun h j hj n' v' ha'=>by
   rcases Nat.lt_or_ge j i with hlt | hge
   ·exact nj j hlt n' v' ha'
   ·have:j=i:=by omega
    subst this
    have:v'=v:=by
     rcases ha with ⟨h1,_,rfl⟩ | ⟨h1,_,rfl⟩ | ⟨h1,_,rfl⟩ | ⟨h1,_,rfl⟩ <;> rcases ha' with ⟨h2,_,rfl⟩ | ⟨h2,_,rfl⟩ | ⟨h2,_,rfl⟩ | ⟨h2,_,rfl⟩ <;> first | rfl | omega
    rw [this];exact h
  walk_at "rd"
  refine r_ixDt (ss.get _ _ hk) ?_
  walk_at "rd"
  ·rename_i hc
   have e:swd rs=Lt y:=by rw [show rs=Lt v by rw [hc,Lt_T]];exact swd_name hk
   rw [e,T_Lt] at q
   exact q
  ·rename_i hc
   exact ⟨rfl,step (fun h=>hc (by rw [h,T_Lt])),_,rfl⟩
 ·rintro σ H1 ⟨rfl,nj,r,rfl⟩
  walk_at "rd"
  have e:swd rs=61::rs:=swd_none fun n v hk=>by
   rcases hk with ⟨h3,h4⟩ | ⟨h3,h4⟩ | ⟨h3,h4⟩ | ⟨h3,h4⟩
   ·exact nj 0 (by show 0 < 4;decide) n v (.inl ⟨rfl,h3,h4⟩)
   ·exact nj 1 (by show 1 < 4;decide) n v (.inr (.inl ⟨rfl,h3,h4⟩))
   ·exact nj 2 (by show 2 < 4;decide) n v (.inr (.inr (.inl ⟨rfl,h3,h4⟩)))
   ·exact nj 3 (by show 3 < 4;decide) n v (.inr (.inr (.inr ⟨rfl,h3,h4⟩)))
  rw [e] at q
  exact q
theorem T_inj {a b:List Nat}:T a=T b↔a=b:=⟨fun h=>by have:=congrArg Lt h;exact this,fun h=>by rw [h]⟩
theorem cl_width {wd:Int} (h0:0≤wd) (h1:wd≤40):(!decide (T (dw wd)=T [48]))=decide (0 < wd):=by
 rw [show decide (T (dw wd)=T [48])=decide (dw wd=[48]) from decide_eq_decide.mpr T_inj,dw_lo h0 h1]
 obtain ⟨k,rfl⟩ : ∃ k:Nat,wd=(k:Int):=⟨wd.toNat,by omega⟩
 have all : ∀ k,k < 41→(!decide ((if k < 10 then [fc k] else [fc (k / 10),fc (k % 10)])=[48]))=decide ((0:Int) < (k:Int)):=by decide +kernel
 rw [Int.toNat_natCast]
 exact all k (by omega)
theorem cl_base {b:Int} (h0:2≤b) (h1:b≤16):(!decide (T (dw b) = "10")) = !decide (b=10):=by
 rw [dw_lo (by omega) (by omega)]
 obtain ⟨k,rfl⟩ : ∃ k:Nat,b=(k:Int):=⟨b.toNat,by omega⟩
 have all : ∀ k,k < 17→(!decide (T (if k < 10 then [fc k] else [fc (k / 10),fc (k % 10)]) = "10")) = !decide ((k:Int)=10):=by decide +kernel
 rw [Int.toNat_natCast]
 exact all k (by omega)
theorem sw_blank {f:Nat}:sw f=[98,108,97,110,107]↔f=32:=by
 constructor
 ·intro h
  unfold sw at h
  split at h
  ·assumption
  ·have:=congrArg List.length h;simp at this
 ·rintro rfl;decide +kernel
theorem sw_point {f:Nat}:sw f=[46]↔f=46:=by
 constructor
 ·intro h
  unfold sw at h
  split at h
  ·have:=congrArg List.length h;rw [show (Lt "blank").length=5 from by decide +kernel] at this;simp at this
  ·simpa using h
 ·rintro rfl;decide +kernel
theorem cl_fill {f:Nat}:(!decide (T (sw f)=T [98,108,97,110,107])) = !decide (f=32):=by rw [show decide (T (sw f)=T [98,108,97,110,107])=decide (f=32) from decide_eq_decide.mpr (T_inj.trans sw_blank)]
theorem cl_point {f:Nat}:(!decide (T (sw f)=T [46])) = !decide (f=46):=by rw [show decide (T (sw f)=T [46])=decide (f=46) from decide_eq_decide.mpr (T_inj.trans sw_point)]
theorem opt2 {c:Bool} {a b:List Nat}:(opt c [a,b]).length≤2:=opt_len
def sp_last_words (K:W.Frag):Sp:=fun vs H Q _=>∃ (o C:Addr) (wd:Int) (f:Nat) (x:Str) (st:Bool) (more:List (Str × V)) (d:Str),vs=[.ref o,.str d]∧FormAt K H o C wd f x st more∧0≤wd∧wd≤40 ∧ ∀ l H',NL H H' l (wLast wd f x (!decide (f=32)) (!decide (x=d)) st)→Q (.ref l) H'
theorem ok_last_words {f : Addr} {fd : FuncData} (F : Fun K "last_words" "last_words" s_last_words f fd) (B : Blt mg) (C_clause : Has P w K mg base "clause" 1 ["name", "word", "untold"] (sp_clause K)) (C_sign_word : Has P w K mg base "sign_word" 1 ["sign"] (sp_sign_word K)) : FnOk P w K mg base CX0 2 f fd ["form", "side"] (sp_last_words K) := by classical
  refine F.ok sc_last_words (fun vs H Q E h => ?_) (fun cdv A outer s H vs Q E hr h => ?_)
  · obtain ⟨o, C, wd, f, x, st, more, d, rfl, F0, h0, h1, q⟩ := h
    rfl
  obtain ⟨o, C, wd, f, x, st, more, d, rfl, F0, h0, h1, q⟩ := h
  refine ⟨_, pss_cons (ps_set (i := 2) sc_last_words.nd rfl (Or.inl rfl) (pe_callH C_clause hr rfl (pa_cons (pe_strT (l := [119, 105, 100, 116, 104]) (by decide +kernel)) (pa_cons (pe_callTy call_strD rfl B.z_str bo_str (pa_cons (pe_fld (pv 0) rfl) (pa_nil))) (pa_cons (pe_strT (l := [48]) (by decide +kernel)) (pa_nil))))))
    (pss_cons (ps_expr (pe_bm PySem.F.plainAttrs_list PySem.F.slot_list_extend PySem.F.type_list_extend mt_extend (pv 2) (pa_cons (pe_callH C_clause hr rfl (pa_cons (pe_strT (l := [102, 105, 108, 108]) (by decide +kernel)) (pa_cons (pe_callH C_sign_word hr rfl (pa_cons (pe_fld (pv 0) rfl) (pa_nil))) (pa_cons (pe_strT (l := [98, 108, 97, 110, 107]) (by decide +kernel)) (pa_nil))))) (pa_nil))))
    (pss_cons (ps_expr (pe_bm PySem.F.plainAttrs_list PySem.F.slot_list_extend PySem.F.type_list_extend mt_extend (pv 2) (pa_cons (pe_callH C_clause hr rfl (pa_cons (pe_strT (l := [115, 105, 100, 101]) (by decide +kernel)) (pa_cons (pe_fld (pv 0) rfl) (pa_cons (pv 1) (pa_nil))))) (pa_nil))))
    (pss_cons (ps_if (pt_val (pe_fld (pv 0) rfl)) (pss_one (ps_expr (pe_bm PySem.F.plainAttrs_list PySem.F.slot_list_append PySem.F.type_list_append mt_append (pv 2) (pa_cons (pe_strT (l := [115, 116, 114, 105, 99, 116]) (by decide +kernel)) (pa_nil))))) (pss_nil))
    (pss_one (ps_ret (pv 2)))))), ?_⟩
  walk_at "st"
  walk_at "rd"
  refine c_clause fun l H1 n1 => ?_
  rw [cl_width h0 h1] at n1
  have n1' : NL H H1 l (opt (decide (0 < wd)) [k_width, dw wd]) := n1
  clear n1
  have F1 := F0.same n1'.1
  have e1 := n1'.2.2
  walk_at "rd"
  refine c_clause fun b H2 n2 => ?_
  rw [cl_fill] at n2
  have F2 := F1.same n2.1
  have n2' : NL H1 H2 b (opt (!decide (f = 32)) [k_fill, sw f]) := n2
  clear n2
  walk_at "rd"
  refine nl_ext n1' n2'.1 n2'.2.2 (by have := opt2 (c := decide (0 < wd)) (a := k_width) (b := dw wd); have := opt2 (c := !decide (f = 32)) (a := k_fill) (b := sw f); omega) fun H3 n3 => ?_
  clear n2' F2 F1 e1
  have F3 := F0.same n3.1
  have e3 := n3.2.2
  walk_at "rd"
  refine c_clause fun b4 H4 n4 => ?_
  have n4' : NL H3 H4 b4 (opt (!decide (x = d)) [k_side, Lt x]) := n4
  clear n4
  walk_at "rd"
  refine nl_ext n3 n4'.1 n4'.2.2 (by have := opt2 (c := decide (0 < wd)) (a := k_width) (b := dw wd); have := opt2 (c := !decide (f = 32)) (a := k_fill) (b := sw f); have := opt2 (c := !decide (x = d)) (a := k_side) (b := Lt x); rw [List.length_append]; omega) fun H5 n5 => ?_
  clear n4' F3 e3 n3
  have F5 := F0.same n5.1
  have e5 := n5.2.2
  cases st with
  | true =>
    walk_at "rd"
    refine nl_app n5 (Same.refl _) (by have := opt2 (c := decide (0 < wd)) (a := k_width) (b := dw wd); have := opt2 (c := !decide (f = 32)) (a := k_fill) (b := sw f); have := opt2 (c := !decide (x = d)) (a := k_side) (b := Lt x); rw [List.length_append, List.length_append]; omega) fun H6 n6 => ?_
    walk_at "rd"
    refine q _ _ ?_
    unfold wLast
    simp only [List.append_assoc, List.append_nil] at n6 ⊢
    exact n6
  | false =>
    walk_at "rd"
    refine q _ _ ?_
    unfold wLast
    simp only [List.append_assoc, opt_f, List.append_nil] at n5 ⊢
    exact n5
theorem opt3 {c:Bool} {a b d:List Nat}:(opt c [a,b,d]).length≤3:=opt_len
def nW (fg pl b:Int) (sn:Str) (z:Int) (m pt:Nat) (wy:Str):List (List Nat):=k_number::dw fg::dw pl::wBase b (!decide (b=10)) (wSign sn (!decide (sn = "minus")) (wGroups z m (wPoint pt (!decide (pt=46)) (wWay wy (!decide (wy = "near")) []))))
def sp_number_words (K:W.Frag) (C:Addr):Sp:=fun vs H Q _=>∃ (o:Addr) (fg pl b:Int) (sn:Str) (z:Int) (m pt:Nat) (wy:Str) (wd:Int) (f:Nat) (x:Str) (st:Bool),vs=[.ref o]∧FormAt K H o C wd f x st (nmore fg pl b sn z m pt wy)∧NumS fg pl b sn z m pt wy wd f x ∧ ∀ l H',NL H H' l (nW fg pl b sn z m pt wy)→Q (.ref l) H'
theorem ok_number_words {f:Addr} {fd:FuncData} (F:Fun K "number_words" "number_words" s_number_words f fd) (B:Blt mg) {c_NumberForm:Addr} (C_clause:Has P w K mg base "clause" 1 ["name", "word", "untold"] (sp_clause K)) (C_sign_word:Has P w K mg base "sign_word" 1 ["sign"] (sp_sign_word K)):FnOk P w K mg base CX0 2 f fd ["form"] (sp_number_words K c_NumberForm):=by classical
 refine F.ok sc_number_words (fun vs H Q E h=>?_) (fun cdv A outer s H vs Q E hr h=>?_)
 ·obtain ⟨o,fg,pl,b,sn,z,m,pt,wy,wd,f,x,st,rfl,F0,ok,q⟩:=h
  rfl
 obtain ⟨o,fg,pl,b,sn,z,m,pt,wy,wd,f,x,st,rfl,F0,ok,q⟩:=h
 refine ⟨_,pss_cons (ps_set (i:=1) sc_number_words.nd rfl (Or.inl rfl) (pe_lst (pa_cons (pe_strT (l:=[110,117,109,98,101,114]) (by decide +kernel)) (pa_cons (pe_callTy call_strD rfl B.z_str bo_str (pa_cons (pe_fld (pv 0) rfl) (pa_nil))) (pa_cons (pe_callTy call_strD rfl B.z_str bo_str (pa_cons (pe_fld (pv 0) rfl) (pa_nil))) (pa_nil))))))
  (pss_cons (ps_expr (pe_bm PySem.F.plainAttrs_list PySem.F.slot_list_extend PySem.F.type_list_extend mt_extend (pv 1) (pa_cons (pe_callH C_clause hr rfl (pa_cons (pe_strT (l:=[98,97,115,101]) (by decide +kernel)) (pa_cons (pe_callTy call_strD rfl B.z_str bo_str (pa_cons (pe_fld (pv 0) rfl) (pa_nil))) (pa_cons (pe_str) (pa_nil))))) (pa_nil))))
  (pss_cons (ps_expr (pe_bm PySem.F.plainAttrs_list PySem.F.slot_list_extend PySem.F.type_list_extend mt_extend (pv 1) (pa_cons (pe_callH C_clause hr rfl (pa_cons (pe_strT (l:=[115,105,103,110]) (by decide +kernel)) (pa_cons (pe_fld (pv 0) rfl) (pa_cons (pe_str) (pa_nil))))) (pa_nil))))
  (pss_cons (ps_if (pt_cmpR op_gt (pe_fld (pv 0) rfl) (pe_int) (nomark _)) (pss_one (ps_expr (pe_bm PySem.F.plainAttrs_list PySem.F.slot_list_extend PySem.F.type_list_extend mt_extend (pv 1) (pa_cons (pe_lst (pa_cons (pe_strT (l:=[103,114,111,117,112,115]) (by decide +kernel)) (pa_cons (pe_callTy call_strD rfl B.z_str bo_str (pa_cons (pe_fld (pv 0) rfl) (pa_nil))) (pa_cons (pe_callH C_sign_word hr rfl (pa_cons (pe_fld (pv 0) rfl) (pa_nil))) (pa_nil))))) (pa_nil))))) (pss_nil))
  (pss_cons (ps_expr (pe_bm PySem.F.plainAttrs_list PySem.F.slot_list_extend PySem.F.type_list_extend mt_extend (pv 1) (pa_cons (pe_callH C_clause hr rfl (pa_cons (pe_strT (l:=[112,111,105,110,116]) (by decide +kernel)) (pa_cons (pe_callH C_sign_word hr rfl (pa_cons (pe_fld (pv 0) rfl) (pa_nil))) (pa_cons (pe_strT (l:=[46]) (by decide +kernel)) (pa_nil))))) (pa_nil))))
  (pss_cons (ps_expr (pe_bm PySem.F.plainAttrs_list PySem.F.slot_list_extend PySem.F.type_list_extend mt_extend (pv 1) (pa_cons (pe_callH C_clause hr rfl (pa_cons (pe_strT (l:=[119,97,121]) (by decide +kernel)) (pa_cons (pe_fld (pv 0) rfl) (pa_cons (pe_str) (pa_nil))))) (pa_nil))))
  (pss_one (ps_ret (pv 1)))))))),?_⟩
 walk_at "st"
 have o1:=ok.fg1;have o2:=ok.fg2;have o3:=ok.pl1;have o4:=ok.pl2;have o5:=ok.b1;have o6:=ok.b2;have o7:=ok.z1;have o8:=ok.z2
 walk_at "rdf"
 rename_i l n0
 have n1:NL H (upd H l (.lst [.str (T k_number),.str (T (dw fg)),.str (T (dw pl))])) l [k_number,dw fg,dw pl]:=NL.mk (Same.refl _) n0 rfl
 generalize upd H l (.lst [.str (T k_number),.str (T (dw fg)),.str (T (dw pl))])=H1 at *
 have F1:=F0.same n1.1
 have e1:=n1.2.2
 walk_at "rd"
 refine c_clause fun b2 H2 n2=>?_
 rw [cl_base o5 o6] at n2
 have n2':NL H1 H2 b2 (opt (!decide (b=10)) [k_base,dw b]):=n2
 clear n2
 walk_at "rd"
 refine nl_ext n1 n2'.1 n2'.2.2 (by have a1:=opt2 (c:=!decide (b=10)) (a:=k_base) (b:=dw b);have a2:=opt2 (c:=!decide (sn = "minus")) (a:=k_sign) (b:=Lt sn);have a3:=opt3 (c:=decide (0 < z)) (a:=k_groups) (b:=dw z) (d:=sw m);have a4:=opt2 (c:=!decide (pt=46)) (a:=k_point) (b:=sw pt);have a5:=opt2 (c:=!decide (wy = "near")) (a:=k_way) (b:=Lt wy);simp only [List.length_append,List.length_cons,List.length_nil] at *;omega) fun H3 n3=>?_
 clear n2' F1 e1 n1
 have F3:=F0.same n3.1
 have e3:=n3.2.2
 walk_at "rd"
 refine c_clause fun b4 H4 n4=>?_
 have n4':NL H3 H4 b4 (opt (!decide (sn = "minus")) [k_sign,Lt sn]):=n4
 clear n4
 walk_at "rd"
 refine nl_ext n3 n4'.1 n4'.2.2 (by have a1:=opt2 (c:=!decide (b=10)) (a:=k_base) (b:=dw b);have a2:=opt2 (c:=!decide (sn = "minus")) (a:=k_sign) (b:=Lt sn);have a3:=opt3 (c:=decide (0 < z)) (a:=k_groups) (b:=dw z) (d:=sw m);have a4:=opt2 (c:=!decide (pt=46)) (a:=k_point) (b:=sw pt);have a5:=opt2 (c:=!decide (wy = "near")) (a:=k_way) (b:=Lt wy);simp only [List.length_append,List.length_cons,List.length_nil] at *;omega) fun H5 n5=>?_
 clear n4' F3 e3 n3
 dsimp only
 refine r_seqJ (fun σ' H'=>σ'=[some (.ref o),some (.ref l)]∧NL H H' l (([k_number,dw fg,dw pl]++opt (!decide (b=10)) [k_base,dw b]++opt (!decide (sn = "minus")) [k_sign,Lt sn])++opt (decide (0 < z)) [k_groups,dw z,sw m])) (fun σ6 H6 h=>?_) (fun R hR=>?_)
 ·obtain ⟨rfl,n6⟩:=h
  clear n5
  have F6:=F0.same n6.1
  have e6:=n6.2.2
  walk_at "rd"
  refine c_clause fun b7 H7 n7=>?_
  rw [cl_point] at n7
  have n7':NL H6 H7 b7 (opt (!decide (pt=46)) [k_point,sw pt]):=n7
  clear n7
  walk_at "rd"
  refine nl_ext n6 n7'.1 n7'.2.2 (by have a1:=opt2 (c:=!decide (b=10)) (a:=k_base) (b:=dw b);have a2:=opt2 (c:=!decide (sn = "minus")) (a:=k_sign) (b:=Lt sn);have a3:=opt3 (c:=decide (0 < z)) (a:=k_groups) (b:=dw z) (d:=sw m);have a4:=opt2 (c:=!decide (pt=46)) (a:=k_point) (b:=sw pt);have a5:=opt2 (c:=!decide (wy = "near")) (a:=k_way) (b:=Lt wy);simp only [List.length_append,List.length_cons,List.length_nil] at *;omega) fun H8 n8=>?_
  clear n7' F6 e6 n6
  have F8:=F0.same n8.1
  have e8:=n8.2.2
  walk_at "rd"
  refine c_clause fun b9 H9 n9=>?_
  have n9':NL H8 H9 b9 (opt (!decide (wy = "near")) [k_way,Lt wy]):=n9
  clear n9
  walk_at "rd"
  refine nl_ext n8 n9'.1 n9'.2.2 (by have a1:=opt2 (c:=!decide (b=10)) (a:=k_base) (b:=dw b);have a2:=opt2 (c:=!decide (sn = "minus")) (a:=k_sign) (b:=Lt sn);have a3:=opt3 (c:=decide (0 < z)) (a:=k_groups) (b:=dw z) (d:=sw m);have a4:=opt2 (c:=!decide (pt=46)) (a:=k_point) (b:=sw pt);have a5:=opt2 (c:=!decide (wy = "near")) (a:=k_way) (b:=Lt wy);simp only [List.length_append,List.length_cons,List.length_nil] at *;omega) fun H10 n10=>?_
  walk_at "rd"
  refine q _ _ ?_
  unfold nW wBase wSign wGroups wPoint wWay
  simp only [List.append_assoc,List.cons_append,List.nil_append,List.append_nil] at n10 ⊢
  exact n10
 ·have F5:=F0.same n5.1
  have e5:=n5.2.2
  walk_at "rdf"
  ·rename_i hc l6 n6
   have n6':NL H5 (upd H5 l6 (.lst [.str (T k_groups),.str (T (dw z)),.str (T (sw m))])) l6 [k_groups,dw z,sw m]:=NL.mk (Same.refl _) n6 rfl
   refine nl_ext n5 n6'.1 n6'.2.2 (by have a1:=opt2 (c:=!decide (b=10)) (a:=k_base) (b:=dw b);have a2:=opt2 (c:=!decide (sn = "minus")) (a:=k_sign) (b:=Lt sn);have a3:=opt3 (c:=decide (0 < z)) (a:=k_groups) (b:=dw z) (d:=sw m);have a4:=opt2 (c:=!decide (pt=46)) (a:=k_point) (b:=sw pt);have a5:=opt2 (c:=!decide (wy = "near")) (a:=k_way) (b:=Lt wy);simp only [List.length_append,List.length_cons,List.length_nil] at *;omega) fun H7 n7=>?_
   walk_at "rd"
   refine hR _ _ ⟨rfl,?_⟩
   rw [decide_eq_true hc]
   exact n7
  ·rename_i hc
   refine hR _ _ ⟨rfl,?_⟩
   rw [decide_eq_false hc,opt_f,List.append_nil]
   exact n5
def wW (sg:List Nat) (lo hi:Int):List (List Nat):=k_word::swd (wo 32 sg)::dw lo::dw hi::opt (decide (32 ∈ sg)) [k_blank]
def sp_word_words (K:W.Frag) (C:Addr):Sp:=fun vs H Q _=>∃ (o:Addr) (sg:List Nat) (lo hi wd:Int) (f:Nat) (x:Str) (st:Bool),vs=[.ref o]∧FormAt K H o C wd f x st (wmore sg lo hi)∧SgE sg∧WdR lo hi wd f x ∧ ∀ l H',NL H H' l (wW sg lo hi)→Q (.ref l) H'
theorem ok_word_words {f:Addr} {fd:FuncData} (F:Fun K "word_words" "word_words" s_word_words f fd) (B:Blt mg) {c_WordForm:Addr} (C_signs_word:Has P w K mg base "signs_word" 1 ["signs"] (sp_signs_word K)):FnOk P w K mg base CX0 2 f fd ["form"] (sp_word_words K c_WordForm):=by classical
 refine F.ok sc_word_words (fun vs H Q E h=>?_) (fun cdv A outer s H vs Q E hr h=>?_)
 ·obtain ⟨o,sg,lo,hi,wd,f,x,st,rfl,F0,se,wr,q⟩:=h
  rfl
 obtain ⟨o,sg,lo,hi,wd,f,x,st,rfl,F0,se,wr,q⟩:=h
 refine ⟨_,pss_cons (ps_set (i:=1) sc_word_words.nd rfl (Or.inl rfl) (pe_lst (pa_consT (l:=[119,111,114,100]) (by decide +kernel) (paq_cons (peq_callH C_signs_word hr rfl (paq_cons (peq_rep (c:=32) rfl rfl (pe_fld (pv 0) rfl)) pa_nil)) (pa_cons (pe_callTy call_strD rfl B.z_str bo_str (pa_cons (pe_fld (pv 0) rfl) (pa_nil))) (pa_cons (pe_callTy call_strD rfl B.z_str bo_str (pa_cons (pe_fld (pv 0) rfl) (pa_nil))) (pa_nil)))))))
  (pss_cons (ps_if (pt_cmpR op_inS (pe_strT (l:=[32]) (by decide +kernel)) (pe_fld (pv 0) rfl) (by with_unfolding_all rfl)) (pss_one (ps_expr (pe_bm PySem.F.plainAttrs_list PySem.F.slot_list_append PySem.F.type_list_append mt_append (pv 1) (pa_cons (pe_strT (l:=[98,108,97,110,107]) (by decide +kernel)) (pa_nil))))) (pss_nil))
  (pss_one (ps_ret (pv 1)))),?_⟩
 walk_at "st"
 have o1:=wr.lo1;have o2:=wr.lo2;have o3:=wr.hi2
 have sl:=se.d.s2
 have wl:(wo 32 sg).length≤200:=Nat.le_trans (List.length_filter_le _ _) sl
 walk_at "rdf"
 refine (show tFld K (tVar 0) "signs" _ _ _ from ?_)
 walk_at "rd"
 refine ⟨sg,rfl,by omega,?_⟩
 walk_at "rd"
 refine ⟨wo 32 sg,rfl,wl,?_⟩
 walk_at "rdf"
 rename_i l1 n0
 have n1:NL H (upd H l1 (.lst [.str (T k_word),.str (T (swd (wo 32 sg))),.str (T (dw lo)),.str (T (dw hi))])) l1 [k_word,swd (wo 32 sg),dw lo,dw hi]:=NL.mk (Same.refl _) n0 rfl
 generalize upd H l1 (.lst [.str (T k_word),.str (T (swd (wo 32 sg))),.str (T (dw lo)),.str (T (dw hi))])=H1 at *
 have F1:=F0.same n1.1
 have e1:=n1.2.2
 walk_at "rd"
 ·rename_i hc
  refine nl_app n1 (Same.refl _) (by show 4≤900;decide) fun H2 n2=>?_
  walk_at "rd"
  refine q _ _ ?_
  unfold wW
  rw [decide_eq_true hc]
  exact n2
 ·rename_i hc
  refine q _ _ ?_
  unfold wW
  rw [decide_eq_false hc]
  exact n1
def sp_choice_words (K:W.Frag) (C:Addr):Sp:=fun vs H Q _=>∃ (o L:Addr) (ns:List (List Nat)) (wd:Int) (f:Nat) (x:Str) (st:Bool),vs=[.ref o]∧FormAt K H o C wd f x st (cmore L)∧H L=some (.lst (tsV ns))∧1≤ns.length∧ns.length≤12 ∧ ∀ l H',NL H H' l (k_choice::dw ns.length::ns)→Q (.ref l) H'
theorem ok_choice_words {f:Addr} {fd:FuncData} (F:Fun K "choice_words" "choice_words" s_choice_words f fd) (B:Blt mg) {c_ChoiceForm:Addr}:FnOk P w K mg base CX0 1 f fd ["form"] (sp_choice_words K c_ChoiceForm):=by classical
 refine F.ok sc_choice_words (fun vs H Q E h=>?_) (fun cdv A outer s H vs Q E hr h=>?_)
 ·obtain ⟨o,L,ns,wd,f,x,st,rfl,F0,hL,n1,n12,q⟩:=h
  rfl
 obtain ⟨o,L,ns,wd,f,x,st,rfl,F0,hL,n1,n12,q⟩:=h
 refine ⟨_,pss_one (ps_ret (pe_op op_cat (pe_lst (pa_cons (pe_strT (l:=[99,104,111,105,99,101]) (by decide +kernel)) (pa_cons (pe_callTy call_strD rfl B.z_str bo_str (pa_cons (pe_callBH call_lenN B.z_len rfl bo_len (pa_cons (pe_fld (pv 0) rfl) (pa_nil))) (pa_nil))) (pa_nil)))) (pe_fld (pv 0) rfl))),?_⟩
 walk_at "st"
 have tl:(tsV ns).length=ns.length:=List.length_map _
 walk_at "rdf"
 rename_i l1 n0
 have n1':NL H (upd H l1 (.lst [.str (T k_choice),.str (T (dw (tsV ns).length))])) l1 [k_choice,dw (tsV ns).length]:=NL.mk (Same.refl _) n0 rfl
 generalize upd H l1 (.lst [.str (T k_choice),.str (T (dw (tsV ns).length))])=H1 at *
 have F1:=F0.same n1'.1
 have hL1:=n1'.1.at hL
 walk_at "rd"
 refine ⟨l1,L,_,_,rfl,rfl,n1'.2.2,hL1,small (by rw [show (tsV [k_choice,dw (tsV ns).length]).length=2 from rfl,tl];omega),fun p hp=>q p _ (NL.mk n1'.1 hp ?_)⟩
 rw [tsV_app,tl];rfl
section
variable {fg pl b : Int} {sn : Str} {z : Int} {m m' pt : Nat} {wy : Str} {wd : Int} {f : Nat} {x : Str} {cb cg cp cw cf cs st : Bool}
theorem wAll_eq:(k_number::dw fg::dw pl::wBase b cb (wSign sn cg (wGroups z m (wPoint pt cp (wWay wy cw [])))))++wLast wd f x cf cs st=wAll fg pl b sn z m pt wy wd f x cb cg cp cw cf cs st:=by
 unfold wAll wBase wSign wGroups wPoint wWay
 simp only [List.cons_append,List.append_assoc,List.nil_append]
theorem wAll_mark (h:0 < z→m'=m):wAll fg pl b sn z m' pt wy wd f x cb cg cp cw cf cs st=wAll fg pl b sn z m pt wy wd f x cb cg cp cw cf cs st:=by
 by_cases hz:0 < z
 ·rw [h hz]
 ·unfold wAll wGroups
  rw [decide_eq_false hz];rfl
end
abbrev dN (fg pl b:Int) (sn:Str) (z:Int) (m pt:Nat) (wy:Str) (wd:Int) (f:Nat) (x:Str) (st:Bool):List (List Nat):=wAll fg pl b sn z m pt wy wd f x (!decide (b=10)) (!decide (sn = "minus")) (!decide (pt=46)) (!decide (wy = "near")) (!decide (f=32)) (!decide (x = "right")) st
abbrev dW (sg:List Nat) (lo hi wd:Int) (f:Nat) (x:Str) (st:Bool):List (List Nat):=wW sg lo hi++wLast wd f x (!decide (f=32)) (!decide (x = "left")) st
abbrev dC (ns:List (List Nat)) (wd:Int) (f:Nat) (x:Str) (st:Bool):List (List Nat):=(k_choice::dw ns.length::ns)++wLast wd f x (!decide (f=32)) (!decide (x = "left")) st
def Sh (ws:List (List Nat)):Prop:=ws.flatten.length≤400∧ws.length≤30
def sp_show_form (K:W.Frag) (CN CF CC:Addr):Sp:=fun vs H Q _=>(∃ (o:Addr) (fg pl b:Int) (sn:Str) (z:Int) (m pt:Nat) (wy:Str) (wd:Int) (f:Nat) (x:Str) (st:Bool),vs=[.ref o]∧FormAt K H o CN wd f x st (nmore fg pl b sn z m pt wy)∧NumS fg pl b sn z m pt wy wd f x∧Sh (dN fg pl b sn z m pt wy wd f x st) ∧ ∀ H',Same H H'→Q (.str (T (jn [32] (dN fg pl b sn z m pt wy wd f x st)))) H') ∨
 (∃ (o:Addr) (sg:List Nat) (lo hi wd:Int) (f:Nat) (x:Str) (st:Bool),vs=[.ref o]∧FormAt K H o CF wd f x st (wmore sg lo hi)∧SgE sg∧WdR lo hi wd f x∧Sh (dW sg lo hi wd f x st) ∧ ∀ H',Same H H'→Q (.str (T (jn [32] (dW sg lo hi wd f x st)))) H') ∨
 (∃ (o L:Addr) (ns:List (List Nat)) (wd:Int) (f:Nat) (x:Str) (st:Bool),vs=[.ref o]∧FormAt K H o CC wd f x st (cmore L)∧H L=some (.lst (tsV ns))∧1≤ns.length∧ns.length≤12∧WdC wd f x∧Sh (dC ns wd f x st) ∧ ∀ H',Same H H'→Q (.str (T (jn [32] (dC ns wd f x st)))) H')
theorem sh_join {ws:List (List Nat)} (h:Sh ws):ws.flatten.length+ws.length*1≤16777216:=by
 have:=h.1;have:=h.2;omega
theorem cat_join {H H1 H2:Hp} {l1 l2:Addr} {w1 w2:List (List Nat)} {Q:VK} (n1:NL H H1 l1 w1) (n2:NL H1 H2 l2 w2) (hs:Sh (w1++w2)) (q : ∀ p H3,Same H H3→H3 p=some (.lst (tsV (w1++w2)))→Q (.ref p) H3):rCat (.ref l1) (.ref l2) H2 Q:=by
 have tl : ∀ u:List (List Nat),(tsV u).length=u.length:=fun u=>List.length_map _
 have h2:=hs.2
 rw [List.length_append] at h2
 refine r_cat (n2.1.at n1.2.2) n2.2.2 (small (by rw [tl,tl];omega)) fun p H3 g3 e3=>q p H3 (n1.1.trans (n2.1.trans g3)) ?_
 rw [e3,tsV_app]
theorem ok_show_form {f:Addr} {fd:FuncData} (F:Fun K "show_form" "show_form" s_show_form f fd) (B:Blt mg) {c_NumberForm:Addr} {c_WordForm:Addr} {c_ChoiceForm:Addr} (C_number_words:Has P w K mg base "number_words" 2 ["form"] (sp_number_words K c_NumberForm)) (C_last_words:Has P w K mg base "last_words" 2 ["form", "side"] (sp_last_words K)) (C_word_words:Has P w K mg base "word_words" 2 ["form"] (sp_word_words K c_WordForm)) (C_choice_words:Has P w K mg base "choice_words" 1 ["form"] (sp_choice_words K c_ChoiceForm)){c_Form:Addr} (m_NumberForm:mg "NumberForm" = some (.ref c_NumberForm)) (m_WordForm:mg "WordForm" = some (.ref c_WordForm)) (isn:IsF K c_NumberForm c_NumberForm c_WordForm c_ChoiceForm c_Form true false false) (isw:IsF K c_WordForm c_NumberForm c_WordForm c_ChoiceForm c_Form false true false) (isc:IsF K c_ChoiceForm c_NumberForm c_WordForm c_ChoiceForm c_Form false false true):FnOk P w K mg base CX0 3 f fd ["form"] (sp_show_form K c_NumberForm c_WordForm c_ChoiceForm):=by classical
 refine F.ok sc_show_form (fun vs H Q E h=>?_) (fun cdv A outer s H vs Q E hr h=>?_)
 ·obtain ⟨o,fg,pl,b,sn,z,m,pt,wy,wd,f,x,st,rfl,F0,ok,hs,q⟩ | ⟨o,sg,lo,hi,wd,f,x,st,rfl,F0,se,wr,hs,q⟩ | ⟨o,L,ns,wd,f,x,st,rfl,F0,hL,n1,n12,wc,hs,q⟩:=h
  all_goals rfl
 refine ⟨_,pss_cons (ps_if (pt_val (pe_callBH call_isi B.z_isinstance rfl bo_isinstance (pa_cons (pv 0) (pa_cons (pe_glob rfl m_NumberForm (v:=.ref c_NumberForm) rfl) (pa_nil))))) (pss_one (ps_set (i:=1) sc_show_form.nd rfl (Or.inl rfl) (pe_op op_cat (pe_callH C_number_words hr rfl (pa_cons (pv 0) (pa_nil))) (pe_callH C_last_words hr rfl (pa_cons (pv 0) (pa_cons (pe_str) (pa_nil))))))) (pss_one (ps_if (pt_val (pe_callBH call_isi B.z_isinstance rfl bo_isinstance (pa_cons (pv 0) (pa_cons (pe_glob rfl m_WordForm (v:=.ref c_WordForm) rfl) (pa_nil))))) (pss_one (ps_set (i:=1) sc_show_form.nd rfl (Or.inl rfl) (pe_op op_cat (pe_callH C_word_words hr rfl (pa_cons (pv 0) (pa_nil))) (pe_callH C_last_words hr rfl (pa_cons (pv 0) (pa_cons (pe_str) (pa_nil))))))) (pss_one (ps_set (i:=1) sc_show_form.nd rfl (Or.inl rfl) (pe_op op_cat (pe_callH C_choice_words hr rfl (pa_cons (pv 0) (pa_nil))) (pe_callH C_last_words hr rfl (pa_cons (pv 0) (pa_cons (pe_str) (pa_nil))))))))))
  (pss_one (ps_ret (pe_bm PySem.F.plainAttrs_str PySem.F.slot_str_join PySem.F.type_str_join mt_joinT (pe_strT (l:=[32]) (by decide +kernel)) (pa_cons (pv 1) (pa_nil))))),?_⟩
 obtain ⟨o,fg,pl,b,sn,z,m,pt,wy,wd,f,x,st,rfl,F0,ok,hs,q⟩ | ⟨o,sg,lo,hi,wd,f,x,st,rfl,F0,se,wr,hs,q⟩ | ⟨o,L,ns,wd,f,x,st,rfl,F0,hL,n1,n12,wc,hs,q⟩:=h
 all_goals walk_at "st"
 ·walk_at "rd"
  refine r_isi (isn.ty F0) ⟨"", .inr ⟨_,rfl⟩⟩ isn.k1 ?_
  walk_at "rd"
  refine ⟨o,fg,pl,b,sn,z,m,pt,wy,wd,f,x,st,rfl,F0,ok,fun l1 H1 n1=>?_⟩
  have F1:=F0.same n1.1
  walk_at "rd"
  refine ⟨o,_,wd,f,x,st,_, "right", rfl,F1,ok.wd1,ok.wd2,fun l2 H2 n2=>?_⟩
  have e:nW fg pl b sn z m pt wy++wLast wd f x (!decide (f=32)) (!decide (x = "right")) st=dN fg pl b sn z m pt wy wd f x st:=wAll_eq
  refine cat_join n1 n2 (by rw [e];exact hs) fun p H3 g3 e3=>?_
  rw [e] at e3
  walk_at "rd"
  exact r_joinT e3 (sh_join hs) (q _ g3)
 ·walk_at "rd"
  refine r_isi (isw.ty F0) ⟨"", .inr ⟨_,rfl⟩⟩ isw.k1 ?_
  walk_at "rd"
  refine r_isi (isw.ty F0) ⟨"", .inr ⟨_,rfl⟩⟩ isw.k2 ?_
  walk_at "rd"
  refine ⟨o,sg,lo,hi,wd,f,x,st,rfl,F0,se,wr,fun l1 H1 n1=>?_⟩
  have F1:=F0.same n1.1
  walk_at "rd"
  refine ⟨o,_,wd,f,x,st,_, "left", rfl,F1,wr.wd1,wr.wd2,fun l2 H2 n2=>?_⟩
  refine cat_join n1 n2 hs fun p H3 g3 e3=>?_
  walk_at "rd"
  exact r_joinT e3 (sh_join hs) (q _ g3)
 ·walk_at "rd"
  refine r_isi (isc.ty F0) ⟨"", .inr ⟨_,rfl⟩⟩ isc.k1 ?_
  walk_at "rd"
  refine r_isi (isc.ty F0) ⟨"", .inr ⟨_,rfl⟩⟩ isc.k2 ?_
  walk_at "rd"
  refine ⟨o,L,ns,wd,f,x,st,rfl,F0,hL,n1,n12,fun l1 H1 n1=>?_⟩
  have F1:=F0.same n1.1
  walk_at "rd"
  refine ⟨o,_,wd,f,x,st,_, "left", rfl,F1,wc.wd1,wc.wd2,fun l2 H2 n2=>?_⟩
  refine cat_join n1 n2 hs fun p H3 g3 e3=>?_
  walk_at "rd"
  exact r_joinT e3 (sh_join hs) (q _ g3)
def sp_law_number_form (K:W.Frag) (C:Addr):Sp:=fun vs H Q _=>∃ (p:Addr) (fg pl b:Int) (sn:Str) (z:Int) (m pt:Nat) (wy:Str) (wd:Int) (f:Nat) (x:Str) (st:Bool),vs=[.ref p]∧SpecN H p fg pl b sn z m pt wy wd f x st ∧ ∀ o H',Same H H'→FormAt K H' o C wd f x st (nmore fg pl b sn z m pt wy)→Q (.ref o) H'
theorem ok_law_number_form {f:Addr} {fd:FuncData} (F:Fun K "_law_number_form" "_law_number_form" s_law_number_form f fd) (B:Blt mg) {c_NumberForm:Addr} (m_NumberForm:mg "NumberForm" = some (.ref c_NumberForm)) (I_NumberForm_init:HasI P w K mg base CX0 c_NumberForm 2 ["self", "figures", "places", "base", "sign", "size", "mark", "point", "way", "width", "fill", "side", "strict"] (sp_NumberForm___init__ K c_NumberForm))(cl:Cls K c_NumberForm) (na:NoAttrs K c_NumberForm (bns++nns)):FnOk P w K mg base CX0 4 f fd ["_law_spec"] (sp_law_number_form K c_NumberForm):=by classical
 refine F.ok sc_law_number_form (fun vs H Q E h=>?_) (fun cdv A outer s H vs Q E hr h=>?_)
 ·obtain ⟨p,fg,pl,b,sn,z,m,pt,wy,wd,f,x,st,rfl,hp,q⟩:=h
  rfl
 obtain ⟨p,fg,pl,b,sn,z,m,pt,wy,wd,f,x,st,rfl,hp,q⟩:=h
 refine ⟨_,pss_cons (ps_asg (pe_slice sl_tup (pv 0) (po_some (pe_int)) (po_some (pe_int))) (pg_tup rfl (pgs_cons (pg_name (i:=1) sc_law_number_form.nd rfl (Or.inl rfl)) (pgs_cons (pg_name (i:=2) sc_law_number_form.nd rfl (Or.inl rfl)) (pgs_cons (pg_name (i:=3) sc_law_number_form.nd rfl (Or.inl rfl)) (pgs_cons (pg_name (i:=4) sc_law_number_form.nd rfl (Or.inl rfl)) (pgs_cons (pg_name (i:=5) sc_law_number_form.nd rfl (Or.inl rfl)) (pgs_cons (pg_name (i:=6) sc_law_number_form.nd rfl (Or.inl rfl)) (pgs_cons (pg_name (i:=7) sc_law_number_form.nd rfl (Or.inl rfl)) (pgs_nil))))))))))
  (pss_cons (ps_asg (pe_slice sl_tup (pv 0) (po_some (pe_int)) (po_none)) (pg_tup rfl (pgs_cons (pg_name (i:=8) sc_law_number_form.nd rfl (Or.inl rfl)) (pgs_cons (pg_name (i:=9) sc_law_number_form.nd rfl (Or.inl rfl)) (pgs_cons (pg_name (i:=10) sc_law_number_form.nd rfl (Or.inl rfl)) (pgs_cons (pg_name (i:=11) sc_law_number_form.nd rfl (Or.inl rfl)) (pgs_cons (pg_name (i:=12) sc_law_number_form.nd rfl (Or.inl rfl)) (pgs_nil))))))))
  (pss_one (ps_ret (pe_makeH I_NumberForm_init pass0 hr rfl m_NumberForm (pa_cons (pv 1) (pa_cons (pv 2) (pa_cons (pv 3) (pa_cons (pv 4) (pa_cons (pv 5) (pa_cons (pv 6) (pa_cons (pv 7) (pa_cons (pv 8) (pa_cons (pv 9) (pa_cons (pv 10) (pa_cons (pv 11) (pa_cons (pv 12) (pa_nil) se_Name) se_Name) se_Name) se_Name) se_Name) se_Name) se_Name) se_Name) se_Name) se_Name) se_Name) se_Name))))),?_⟩
 walk_at "st"
 unfold SpecN at hp
 walk_at "rd"
 refine r_slT (n:=13) hp rfl (by decide) fun p1 H1 g1 e1=>?_
 have e1':H1 p1=some (.tup [.int fg,.int pl,.int b,.str sn,.int z,.str (T [m]),.str (T [pt])]):=e1
 clear e1
 walk_at "rd"
 refine r_slT (n:=13) (g1.at hp) rfl (by decide) fun p2 H2 g2 e2=>?_
 have e2':H2 p2=some (.tup [.str wy,.int wd,.str (T [f]),.str x,.bl st]):=e2
 clear e2
 walk_at "rd"
 intro o dx no nd ne
 refine ⟨o,dx,fg,pl,b,sn,z,m,pt,wy,wd,f,x,st,rfl,upd_same,?_⟩
 have F0:FormAt K (upd (upd (upd H2 dx (.own o)) o (.ins c_NumberForm dx [])) o (.ins c_NumberForm dx (bfs wd f x st (nmore fg pl b sn z m pt wy)))) o c_NumberForm wd f x st (nmore fg pl b sn z m pt wy):=⟨⟨dx,upd_same⟩,cl,na⟩
 have g3:Same H2 (upd (upd (upd H2 dx (.own o)) o (.ins c_NumberForm dx [])) o (.ins c_NumberForm dx (bfs wd f x st (nmore fg pl b sn z m pt wy)))):=same_upd (same_upd (same_upd (Same.refl _) nd) no) no
 generalize upd (upd (upd H2 dx (.own o)) o (.ins c_NumberForm dx [])) o (.ins c_NumberForm dx (bfs wd f x st (nmore fg pl b sn z m pt wy)))=H3 at F0 g3 ⊢
 exact ⟨rfl,q _ _ ((g1.trans g2).trans g3) F0⟩
def sp_law_made_by (K:W.Frag) (CN CF CC:Addr):Sp:=fun vs H Q _=>(∃ (p:Addr) (fg pl b:Int) (sn:Str) (z:Int) (m pt:Nat) (wy:Str) (wd:Int) (f:Nat) (x:Str) (st:Bool),vs=[.ref p]∧SpecN H p fg pl b sn z m pt wy wd f x st ∧ ∀ o H',Same H H'→FormAt K H' o CN wd f x st (nmore fg pl b sn z m pt wy)→Q (.ref o) H') ∨
 (∃ (p:Addr) (sg:List Nat) (lo hi wd:Int) (f:Nat) (x:Str) (st:Bool),vs=[.ref p]∧SpecW H p sg lo hi wd f x st ∧ ∀ o H',Same H H'→FormAt K H' o CF wd f x st (wmore sg lo hi)→Q (.ref o) H') ∨
 (∃ (p L:Addr) (ns:List (List Nat)) (wd:Int) (f:Nat) (x:Str) (st:Bool),vs=[.ref p]∧SpecC H p L wd f x st∧H L=some (.lst (tsV ns)) ∧ ∀ o L' H',Same H H'→FormAt K H' o CC wd f x st (cmore L')→H' L'=some (.lst (tsV ns))→Q (.ref o) H')
theorem ok_law_made_by {f:Addr} {fd:FuncData} (F:Fun K "_law_made_by" "_law_made_by" s_law_made_by f fd) (B:Blt mg) {c_ChoiceForm:Addr} {c_WordForm:Addr} {c_NumberForm:Addr} (m_ChoiceForm:mg "ChoiceForm" = some (.ref c_ChoiceForm)) (m_WordForm:mg "WordForm" = some (.ref c_WordForm)) (C_law_number_form:Has P w K mg base "_law_number_form" 4 ["_law_spec"] (sp_law_number_form K c_NumberForm)) (I_ChoiceForm_init:HasI P w K mg base CX0 c_ChoiceForm 2 ["self", "names", "width", "fill", "side", "strict"] (sp_ChoiceForm___init__ K c_ChoiceForm)) (I_WordForm_init:HasI P w K mg base CX0 c_WordForm 2 ["self", "signs", "least", "most", "width", "fill", "side", "strict"] (sp_WordForm___init__ K c_WordForm))(clW:Cls K c_WordForm) (naW:NoAttrs K c_WordForm (bns++wns)) (clC:Cls K c_ChoiceForm) (naC:NoAttrs K c_ChoiceForm (bns++cns)):FnOk P w K mg base CX0 5 f fd ["_law_spec"] (sp_law_made_by K c_NumberForm c_WordForm c_ChoiceForm):=by classical
 refine F.ok sc_law_made_by (fun vs H Q E h=>?_) (fun cdv A outer s H vs Q E hr h=>?_)
 ·obtain ⟨p,fg,pl,b,sn,z,m,pt,wy,wd,f,x,st,rfl,hp,q⟩ | ⟨p,sg,lo,hi,wd,f,x,st,rfl,hp,q⟩ | ⟨p,L,ns,wd,f,x,st,rfl,hp,hL,q⟩:=h
  all_goals rfl
 refine ⟨_,pss_cons (ps_if (pt_cmpR op_eq (pe_ix ix_tup (pv 0) (pe_int) (fun _ _=>rfl)) (pe_strT (l:=[110,117,109,98,101,114]) (by decide +kernel)) (nomark _)) (pss_one (ps_ret (pe_callH C_law_number_form hr rfl (pa_cons (pv 0) (pa_nil))))) (pss_nil))
  (pss_cons (ps_if (pt_cmpR op_eq (pe_ix ix_tup (pv 0) (pe_int) (fun _ _=>rfl)) (pe_strT (l:=[119,111,114,100]) (by decide +kernel)) (nomark _)) (pss_one (ps_ret (pe_makeH I_WordForm_init pass0 hr rfl m_WordForm (pa_cons (pe_ix ix_tup (pv 0) (pe_int) (fun _ _=>rfl)) (pa_cons (pe_ix ix_tup (pv 0) (pe_int) (fun _ _=>rfl)) (pa_cons (pe_ix ix_tup (pv 0) (pe_int) (fun _ _=>rfl)) (pa_cons (pe_ix ix_tup (pv 0) (pe_int) (fun _ _=>rfl)) (pa_cons (pe_ix ix_tup (pv 0) (pe_int) (fun _ _=>rfl)) (pa_cons (pe_ix ix_tup (pv 0) (pe_int) (fun _ _=>rfl)) (pa_cons (pe_ix ix_tup (pv 0) (pe_int) (fun _ _=>rfl)) (pa_nil) se_Subscript) se_Subscript) se_Subscript) se_Subscript) se_Subscript) se_Subscript) se_Subscript)))) (pss_nil))
  (pss_one (ps_ret (pe_makeH I_ChoiceForm_init pass0 hr rfl m_ChoiceForm (pa_cons (pe_callTy call_listOf rfl B.z_list bo_list (pa_cons (pe_ix ix_tup (pv 0) (pe_int) (fun _ _=>rfl)) (pa_nil))) (pa_cons (pe_ix ix_tup (pv 0) (pe_int) (fun _ _=>rfl)) (pa_cons (pe_ix ix_tup (pv 0) (pe_int) (fun _ _=>rfl)) (pa_cons (pe_ix ix_tup (pv 0) (pe_int) (fun _ _=>rfl)) (pa_cons (pe_ix ix_tup (pv 0) (pe_int) (fun _ _=>rfl)) (pa_nil)))))))))),?_⟩
 obtain ⟨p,fg,pl,b,sn,z,m,pt,wy,wd,f,x,st,rfl,hp,q⟩ | ⟨p,sg,lo,hi,wd,f,x,st,rfl,hp,q⟩ | ⟨p,L,ns,wd,f,x,st,rfl,hp,hL,q⟩:=h
 all_goals walk_at "st"
 ·have hp0:=hp
  unfold SpecN at hp
  walk_at "rd"
  exact ⟨p,fg,pl,b,sn,z,m,pt,wy,wd,f,x,st,rfl,hp0,q⟩
 ·unfold SpecW at hp
  walk_at "rd"
  intro o dx no nd ne
  refine ⟨o,dx,sg,lo,hi,wd,f,x,st,rfl,upd_same,?_⟩
  have F0:FormAt K (upd (upd (upd H dx (.own o)) o (.ins c_WordForm dx [])) o (.ins c_WordForm dx (bfs wd f x st (wmore sg lo hi)))) o c_WordForm wd f x st (wmore sg lo hi):=⟨⟨dx,upd_same⟩,clW,naW⟩
  have g7:Same H (upd (upd (upd H dx (.own o)) o (.ins c_WordForm dx [])) o (.ins c_WordForm dx (bfs wd f x st (wmore sg lo hi)))):=same_upd (same_upd (same_upd (Same.refl _) nd) no) no
  exact ⟨rfl,q o _ g7 F0⟩
 ·unfold SpecC at hp
  walk_at "rd"
  rename_i l1 H1 g1 n1 e1
  have hp1:=g1.at hp
  walk_at "rd"
  intro o dx no nd ne
  have g4:Same H1 (upd (upd H1 dx (.own o)) o (.ins c_ChoiceForm dx [])):=same_upd (same_upd (Same.refl _) nd) no
  refine ⟨o,dx,l1,ns,wd,f,x,st,rfl,upd_same,g4.at e1,fun L' H4 s4 n4 e4 e4'=>?_⟩
  have g5:Same H1 H4:=fun b u e=>s4 b u (fun z=>by rw [z,no] at e;cases e) (g4.at e)
  exact ⟨rfl,q o L' H4 (g1.trans g5) ⟨⟨dx,e4'⟩,clC,naC⟩ e4⟩
theorem c_fmN {K:W.Frag} {CN CF CC o p:Addr} {H:Hp} {Q:VK} {E:XK} (h:FmN K H o p CN) (q : ∀ H',Same H H'→Q (.bl true) H'):sp_law_form_is K CN CF CC ([.ref o,.ref p]++[]) H Q E:=.inl ⟨o,p,rfl,h,q⟩
theorem c_fmW {K:W.Frag} {CN CF CC o p:Addr} {H:Hp} {Q:VK} {E:XK} (h:FmW K H o p CF) (q : ∀ H',Same H H'→Q (.bl true) H'):sp_law_form_is K CN CF CC ([.ref o,.ref p]++[]) H Q E:=.inr (.inl ⟨o,p,rfl,h,q⟩)
theorem c_fmC {K:W.Frag} {CN CF CC o p:Addr} {H:Hp} {Q:VK} {E:XK} (h:FmC K H o p CC) (q : ∀ H',Same H H'→Q (.bl true) H'):sp_law_form_is K CN CF CC ([.ref o,.ref p]++[]) H Q E:=.inr (.inr ⟨o,p,rfl,h,q⟩)
theorem WT.sh {ws:List (List Nat)} (h:WT ws 400 30):Sh ws:=⟨h.2.1,h.2.2⟩
theorem sgB_eq {sg : List Nat} (h : SgD sg) : sgB (decide (32 ∈ sg)) (wo 32 sg) = sg := by
  match sg, h with
  | [], _ => rfl
  | c :: r, h =>
    have hc := sgn_ge (h.sgn c (List.mem_cons_self ..))
    have lt := (List.pairwise_cons.mp h.up).1
    have nr : ∀ d ∈ r, (d != 32) = true := fun d hd => by
      have := lt d hd
      have : d ≠ 32 := by omega
      simpa using this
    have fr : wo 32 r = r := List.filter_eq_self.mpr nr
    by_cases z : c = 32
    · subst z
      have w0 : wo 32 (32 :: r) = r := by
        rw [show wo 32 (32 :: r) = wo 32 r from List.filter_cons_of_neg (by decide)]; exact fr
      rw [w0, decide_eq_true (List.mem_cons_self ..)]; rfl
    · have w0 : wo 32 (c :: r) = c :: r := by
        rw [show wo 32 (c :: r) = c :: wo 32 r from List.filter_cons_of_pos (by simpa using z), fr]
      have n32 : 32 ∉ c :: r := fun m => by
        rcases List.mem_cons.mp m with e | e
        · exact z e.symm
        · have := lt 32 e; omega
      rw [w0, decide_eq_false n32]; rfl
def sp_law_shows_well (K:W.Frag):Sp:=fun vs H Q _=>∃ c o:Int,vs=[.int c,.int o] ∧ ∀ H',Same H H'→Q (.bl true) H'
theorem ok_law_shows_well {f : Addr} {fd : FuncData} (F : Fun K "_law_shows_well" "_law_shows_well" s_law_shows_well f fd) (B : Blt mg) {c_NumberForm : Addr} {c_WordForm : Addr} {c_ChoiceForm : Addr} (C_law_any_spec : Has P w K mg base "_law_any_spec" 4 ["_law_cell", "_law_other", "_law_sort"] (sp_law_any_spec K)) (C_law_form_text : Has P w K mg base "_law_form_text" 6 ["_law_spec", "_law_bits"] (sp_law_form_text K)) (C_law_made_by : Has P w K mg base "_law_made_by" 5 ["_law_spec"] (sp_law_made_by K c_NumberForm c_WordForm c_ChoiceForm)) (C_read_form : Has P w K mg base "read_form" 7 ["text"] (sp_read_form K c_NumberForm c_WordForm c_ChoiceForm)) (C_law_text_is : Has P w K mg base "_law_text_is" 1 ["_law_found", "_law_due"] (sp_law_text_is K)) (C_law_pick : Has P w K mg base "_law_pick" 1 ["_law_cell", "_law_salt", "_law_many"] (sp_law_pick K)) (C_show_form : Has P w K mg base "show_form" 3 ["form"] (sp_show_form K c_NumberForm c_WordForm c_ChoiceForm)) (C_law_form_is : Has P w K mg base "_law_form_is" 3 ["_law_form", "_law_spec"] (sp_law_form_is K c_NumberForm c_WordForm c_ChoiceForm)) : FnOk P w K mg base CX0 8 f fd ["_law_cell", "_law_other"] (sp_law_shows_well K) := by classical
  refine F.ok sc_law_shows_well (fun vs H Q E h => ?_) (fun cdv A outer s H vs Q E hr h => ?_)
  · obtain ⟨c, o, rfl, q⟩ := h
    rfl
  obtain ⟨c, o, rfl, q⟩ := h
  refine ⟨_, pss_cons (ps_set (i := 2) sc_law_shows_well.nd rfl (Or.inl rfl) (pe_callH C_law_any_spec hr rfl (pa_cons (pv 0) (pa_cons (pv 1) (pa_cons (pe_callH C_law_pick hr rfl (pa_cons (pv 0) (pa_cons (pe_int) (pa_cons (pe_int) (pa_nil))))) (pa_nil))))))
    (pss_cons (ps_set (i := 3) sc_law_shows_well.nd rfl (Or.inl rfl) (pe_callH C_law_form_text hr rfl (pa_cons (pv 2) (pa_cons (pe_int) (pa_nil)))))
    (pss_cons (ps_set (i := 4) sc_law_shows_well.nd rfl (Or.inl rfl) (pe_callH C_law_made_by hr rfl (pa_cons (pv 2) (pa_nil))))
    (pss_cons (ps_if (PW.pt (pw_or (pt_not (pt_val (pe_callH C_law_text_is hr rfl (pa_cons (pe_callH C_show_form hr rfl (pa_cons (pv 4) (pa_nil))) (pa_cons (pv 3) (pa_nil)))))) (pw_or1 (pt_not (pt_val (pe_callH C_law_form_is hr rfl (pa_cons (pv 4) (pa_cons (pv 2) (pa_nil))))))))) (pss_one (ps_ret (pe_bl))) (pss_nil))
    (pss_cons (ps_set (i := 5) sc_law_shows_well.nd rfl (Or.inl rfl) (pe_callH C_read_form hr rfl (pa_cons (pv 3) (pa_nil))))
    (pss_cons (ps_if (PW.pt (pw_or (pt_not (pt_val (pe_callH C_law_form_is hr rfl (pa_cons (pv 5) (pa_cons (pv 2) (pa_nil)))))) (pw_or1 (pt_not (pt_val (pe_callH C_law_text_is hr rfl (pa_cons (pe_callH C_show_form hr rfl (pa_cons (pv 5) (pa_nil))) (pa_cons (pv 3) (pa_nil))))))))) (pss_one (ps_ret (pe_bl))) (pss_nil))
    (pss_one (ps_ret (pe_callH C_law_text_is hr rfl (pa_cons (pe_callH C_show_form hr rfl (pa_cons (pe_callH C_read_form hr rfl (pa_cons (pe_callH C_law_form_text hr rfl (pa_cons (pv 2) (pa_cons (pe_callH C_law_pick hr rfl (pa_cons (pv 1) (pa_cons (pe_int) (pa_cons (pe_int) (pa_nil))))) (pa_nil)))) (pa_nil))) (pa_nil))) (pa_cons (pv 3) (pa_nil))))))))))), ?_⟩
  walk_at "st"
  walk_at "rd"
  rename_i v v0 v3
  refine ⟨c, o, v, rfl, v0, v3, fun p H1 wd f x st W d g1 hA => ?_⟩
  walk_at "rd"
  refine ⟨p, _, wd, f, x, st, W, d, rfl, hA, fun H2 ws cf cs g2 w1 i5 i6 => ?_⟩
  have hA2 := hA.same g2
  have WT1 := hA.wt w1 cf cs
  have q' : ∀ H', Same H2 H' → Q (.bl true) H' := fun H' g => q H' (g1.trans (g2.trans g))
  clear q hA g1 g2
  obtain rfl := i5.dec
  obtain rfl := i6.dec
  rcases hA2 with ⟨fg, pl, b, sn, z, m, pt, wy, hp, ok, sg3, hs, rfl, rfl⟩ | ⟨sg, lo, hi, hp, se, wr, hs, rfl, rfl⟩ | ⟨L0, ns, hp, hL, nm, n1, n12, wc, hs, rfl, rfl⟩
  · have hA3 : SpA H2 p wd f x st (WN fg pl b sn z m pt wy) "right" := .inl ⟨fg, pl, b, sn, z, m, pt, wy, hp, ok, sg3, hs, rfl, rfl⟩
    obtain ⟨cb, cg, cp, cw, i1, i2, i3, i4, rfl⟩ := w1
    obtain rfl := i1.dec
    obtain rfl := i2.dec
    obtain rfl := i3.dec
    obtain rfl := i4.dec
    rw [wAll_eq] at *
    obtain ⟨j1, j2, j4⟩ := jn_ok WT1
    have hl2 := WT1.2.2
    have hss : ∀ m', m' < 127 → (st && decide (wd < ((ncore pl b sn z m' pt 0).length : Int))) = false := fun m' _ => by
      cases st with
      | false => rfl
      | true =>
        have := hs rfl
        rw [core0_len ok.b1 ok.sn]
        unfold shortN at this
        simp only [Bool.true_and, decide_eq_false_iff_not]
        omega
    walk_at "rd"
    refine .inl ⟨p, fg, pl, b, sn, z, m, pt, wy, wd, f, x, st, rfl, hp, fun o1 H3 g3 F3 => ?_⟩
    have hp3 : SpecN H3 p fg pl b sn z m pt wy wd f x st := g3.at hp
    walk_at "rd"
    refine .inl ⟨o1, fg, pl, b, sn, z, m, pt, wy, wd, f, x, st, rfl, F3, ok, WT1.sh, fun H4 g4 => ?_⟩
    have F4 := F3.same g4
    have hp4 : SpecN H4 p fg pl b sn z m pt wy wd f x st := g4.at hp3
    walk_at "rd"
    refine c_fmN ⟨fg, pl, b, sn, z, m, m, pt, wy, wd, f, x, st, F4, hp4, ok, sg3, (fun _ => rfl), hs⟩ fun H5 g5 => ?_
    walk_at "rd"
    refine .inl ⟨fg, pl, b, sn, z, m, pt, wy, wd, f, x, _, _, _, _, _, _, st, rfl, ok, i1.1, i2.1, i3.1, i4.1, i5.1, i6.1, j4, j1, Nat.le_trans j2 (by decide), Nat.le_trans hl2 (by decide), hss, fun o6 m6 H6 g6 F6 z6 l6 => ?_⟩
    have hp6 : SpecN H6 p fg pl b sn z m pt wy wd f x st := g6.at (g5.at hp4)
    have ok6 : NumS fg pl b sn z m6 pt wy wd f x := { ok with m := l6 }
    walk_at "rd"
    refine c_fmN ⟨fg, pl, b, sn, z, m, m6, pt, wy, wd, f, x, st, F6, hp6, ok, sg3, z6, hs⟩ fun H7 g7 => ?_
    have F7 := F6.same g7
    walk_at "rd"
    refine .inl ⟨o6, fg, pl, b, sn, z, m6, pt, wy, wd, f, x, st, rfl, F7, ok6, by unfold dN; rw [wAll_mark z6]; exact WT1.sh, fun H8 g8 => ?_⟩
    unfold dN
    rw [wAll_mark z6]
    have g28 : Same H2 H8 := g3.trans (g4.trans (g5.trans (g6.trans (g7.trans g8))))
    walk_at "rd"
    refine ⟨p, _, wd, f, x, st, _, _, rfl, hA3.same g28, fun H9 ws9 cf9 cs9 g9 w9 i59 i69 => ?_⟩
    have WT9 := hA3.wt w9 cf9 cs9
    obtain ⟨cb9, cg9, cp9, cw9, k1, k2, k3, k4, rfl⟩ := w9
    rw [wAll_eq] at *
    obtain ⟨j19, j29, j49⟩ := jn_ok WT9
    have hl9 := WT9.2.2
    walk_at "rd"
    refine .inl ⟨fg, pl, b, sn, z, m, pt, wy, wd, f, x, cb9, cg9, cp9, cw9, cf9, cs9, st, rfl, ok, k1.1, k2.1, k3.1, k4.1, i59.1, i69.1, j49, j19, Nat.le_trans j29 (by decide), Nat.le_trans hl9 (by decide), hss, fun o10 m10 H10 g10 F10 z10 l10 => ?_⟩
    have ok10 : NumS fg pl b sn z m10 pt wy wd f x := { ok with m := l10 }
    walk_at "rd"
    refine .inl ⟨o10, fg, pl, b, sn, z, m10, pt, wy, wd, f, x, st, rfl, F10, ok10, by unfold dN; rw [wAll_mark z10]; exact WT1.sh, fun H11 g11 => ?_⟩
    unfold dN
    rw [wAll_mark z10]
    walk_at "rd"
    exact q' _ (g28.trans (g9.trans (g10.trans g11)))
  · have hA3 : SpA H2 p wd f x st (WW sg lo hi) "left" := .inr (.inl ⟨sg, lo, hi, hp, se, wr, hs, rfl, rfl⟩)
    obtain ⟨w, hw, hw0, rfl⟩ := w1
    obtain rfl := hw0 rfl
    obtain ⟨j1, j2, j4⟩ := jn_ok WT1
    have hl2 := WT1.2.2
    have ok : WdS (sgB (decide (32 ∈ sg)) (wo 32 sg)) lo hi wd f x := by rw [sgB_eq se.d]; exact ⟨se.d.s1, se.d.s2, wr.lo1, wr.lo2, wr.hi2, wr.wd1, wr.wd2, sgn_lt wr.f, wr.x⟩
    walk_at "rd"
    refine .inr (.inl ⟨p, sg, lo, hi, wd, f, x, st, rfl, hp, fun o1 H3 g3 F3 => ?_⟩)
    have hp3 : SpecW H3 p sg lo hi wd f x st := g3.at hp
    walk_at "rd"
    refine .inr (.inl ⟨o1, sg, lo, hi, wd, f, x, st, rfl, F3, se, wr, WT1.sh, fun H4 g4 => ?_⟩)
    unfold dW wW
    have F4 := F3.same g4
    have hp4 : SpecW H4 p sg lo hi wd f x st := g4.at hp3
    walk_at "rd"
    refine c_fmW ⟨sg, lo, hi, wd, f, x, st, F4, hp4, se, wr, hs⟩ fun H5 g5 => ?_
    walk_at "rd"
    refine .inr (.inl ⟨swd (wo 32 sg), wo 32 sg, decide (32 ∈ sg), lo, hi, wd, f, x, _, _, st, rfl, hw, ok, i5.1, i6.1, j4, j1, Nat.le_trans j2 (by decide), Nat.le_trans hl2 (by decide), hs, fun o6 H6 g6 F6 => ?_⟩)
    rw [sgB_eq se.d] at F6
    have hp6 : SpecW H6 p sg lo hi wd f x st := g6.at (g5.at hp4)
    walk_at "rd"
    refine c_fmW ⟨sg, lo, hi, wd, f, x, st, F6, hp6, se, wr, hs⟩ fun H7 g7 => ?_
    have F7 := F6.same g7
    walk_at "rd"
    refine .inr (.inl ⟨o6, sg, lo, hi, wd, f, x, st, rfl, F7, se, wr, WT1.sh, fun H8 g8 => ?_⟩)
    unfold dW wW
    have g28 : Same H2 H8 := g3.trans (g4.trans (g5.trans (g6.trans (g7.trans g8))))
    walk_at "rd"
    refine ⟨p, _, wd, f, x, st, _, _, rfl, hA3.same g28, fun H9 ws9 cf9 cs9 g9 w9 i59 i69 => ?_⟩
    have WT9 := hA3.wt w9 cf9 cs9
    obtain ⟨w', hw', _, rfl⟩ := w9
    obtain ⟨j19, j29, j49⟩ := jn_ok WT9
    have hl9 := WT9.2.2
    walk_at "rd"
    refine .inr (.inl ⟨w', wo 32 sg, decide (32 ∈ sg), lo, hi, wd, f, x, cf9, cs9, st, rfl, hw', ok, i59.1, i69.1, j49, j19, Nat.le_trans j29 (by decide), Nat.le_trans hl9 (by decide), hs, fun o10 H10 g10 F10 => ?_⟩)
    rw [sgB_eq se.d] at F10
    walk_at "rd"
    refine .inr (.inl ⟨o10, sg, lo, hi, wd, f, x, st, rfl, F10, se, wr, WT1.sh, fun H11 g11 => ?_⟩)
    unfold dW wW
    walk_at "rd"
    exact q' _ (g28.trans (g9.trans (g10.trans g11)))
  · have hA3 : SpA H2 p wd f x st (WC ns) "left" := .inr (.inr ⟨L0, ns, hp, hL, nm, n1, n12, wc, hs, rfl, rfl⟩)
    cases w1
    obtain ⟨j1, j2, j4⟩ := jn_ok WT1
    have hl2 := WT1.2.2
    have ok : ChS ns wd f x := ⟨n1, n12, nm.len, nm.nd, wc.wd1, wc.wd2, sgn_lt wc.f, wc.x⟩
    walk_at "rd"
    refine .inr (.inr ⟨p, L0, ns, wd, f, x, st, rfl, hp, hL, fun o1 L1 H3 g3 F3 e3 => ?_⟩)
    have hp3 : SpecC H3 p L0 wd f x st := g3.at hp
    have hL3 := g3.at hL
    walk_at "rd"
    refine .inr (.inr ⟨o1, L1, ns, wd, f, x, st, rfl, F3, e3, n1, n12, wc, WT1.sh, fun H4 g4 => ?_⟩)
    unfold dC
    have F4 := F3.same g4
    have hp4 : SpecC H4 p L0 wd f x st := g4.at hp3
    have hL4 := g4.at hL3
    walk_at "rd"
    refine c_fmC ⟨L1, L0, ns, wd, f, x, st, F4, g4.at e3, hp4, hL4, nm, n1, n12, wc, hs⟩ fun H5 g5 => ?_
    walk_at "rd"
    refine .inr (.inr ⟨ns, wd, f, x, _, _, st, rfl, ok, i5.1, i6.1, j4, j1, Nat.le_trans j2 (by decide), Nat.le_trans hl2 (by decide), hs, fun o6 L6 H6 g6 F6 n6 e6 => ?_⟩)
    have hp6 : SpecC H6 p L0 wd f x st := g6.at (g5.at hp4)
    have hL6 := g6.at (g5.at hL4)
    walk_at "rd"
    refine c_fmC ⟨L6, L0, ns, wd, f, x, st, F6, e6, hp6, hL6, nm, n1, n12, wc, hs⟩ fun H7 g7 => ?_
    have F7 := F6.same g7
    walk_at "rd"
    refine .inr (.inr ⟨o6, L6, ns, wd, f, x, st, rfl, F7, g7.at e6, n1, n12, wc, WT1.sh, fun H8 g8 => ?_⟩)
    unfold dC
    have g28 : Same H2 H8 := g3.trans (g4.trans (g5.trans (g6.trans (g7.trans g8))))
    walk_at "rd"
    refine ⟨p, _, wd, f, x, st, _, _, rfl, hA3.same g28, fun H9 ws9 cf9 cs9 g9 w9 i59 i69 => ?_⟩
    have WT9 := hA3.wt w9 cf9 cs9
    cases w9
    obtain ⟨j19, j29, j49⟩ := jn_ok WT9
    have hl9 := WT9.2.2
    walk_at "rd"
    refine .inr (.inr ⟨ns, wd, f, x, cf9, cs9, st, rfl, ok, i59.1, i69.1, j49, j19, Nat.le_trans j29 (by decide), Nat.le_trans hl9 (by decide), hs, fun o10 L10 H10 g10 F10 n10 e10 => ?_⟩)
    walk_at "rd"
    refine .inr (.inr ⟨o10, L10, ns, wd, f, x, st, rfl, F10, e10, n1, n12, wc, WT1.sh, fun H11 g11 => ?_⟩)
    unfold dC
    walk_at "rd"
    exact q' _ (g28.trans (g9.trans (g10.trans g11)))
def sp_law (K:W.Frag):Sp:=fun vs H Q _=>∃ (a:Addr) (ns:List Int),vs=[.ref a]∧SqL K H a (ns.map V.int)∧ns.length≤63 ∧ ∀ H',Q (.bl true) H'
theorem c_shows {K:W.Frag} {c o:Int} {H:Hp} {Q:VK} {E:XK} (q : ∀ H',Same H H'→Q (.bl true) H'):sp_law_shows_well K ([.int c,.int o]++[]) H Q E:=⟨c,o,rfl,q⟩
theorem ok_law {f:Addr} {fd:FuncData} (F:Fun K "law" "law" s_law f fd) (B:Blt mg) (C_law_shows_well:Has P w K mg base "_law_shows_well" 8 ["_law_cell", "_law_other"] (sp_law_shows_well K)) (C_law_cell_at:Has P w K mg base "_law_cell_at" 1 ["_law_script", "_law_k"] (sp_law_cell_at K)):FnOk P w K mg base CX0 9 f fd ["_law_script"] (sp_law K):=by classical
 refine F.ok sc_law (fun vs H Q E h=>?_) (fun cdv A outer s H vs Q E hr h=>?_)
 ·obtain ⟨a,ns,rfl,hS,h63,k⟩:=h
  rfl
 obtain ⟨a,ns,rfl,hS,h63,k⟩:=h
 refine ⟨_,pss_cons (ps_for PassesOwn.never rfl (pi_range1 rfl B.z_range (pa_cons (pe_callBH (call_max2N rfl) B.z_max rfl bo_max (pa_cons (pe_int) (pa_cons (pe_callBH (call_min2N rfl) B.z_min rfl bo_min (pa_cons (pe_int) (pa_cons (pe_op op_fdivB (pe_callBH call_lenN B.z_len rfl bo_len (pa_cons (pv 0) (pa_nil))) (pe_int)) (pa_nil)))) (pa_nil)))) (pa_nil))) (pg_name (i:=1) sc_law.nd rfl (Or.inl rfl)) (pss_one (ps_if (pt_not (pt_val (pe_callH C_law_shows_well hr rfl (pa_cons (pe_callH C_law_cell_at hr rfl (pa_cons (pv 0) (pa_cons (pe_op op_mulA (pe_int) (pv 1)) (pa_nil)))) (pa_cons (pe_callH C_law_cell_at hr rfl (pa_cons (pv 0) (pa_cons (pe_op op_add (pe_op op_mulA (pe_int) (pv 1)) (pe_int)) (pa_nil)))) (pa_nil)))))) (pss_one (ps_ret (pe_bl))) (pss_nil))))
  (pss_one (ps_ret (pe_bl))),?_⟩
 walk_at "st"
 walk_at "rd"
 rename_i k1 hk1 k0 hk0
 rw [List.length_map] at hk1
 refine r_kForR (by omega) (by omega) (fun i σ H'=>Same H H' ∧ ∃ r:Option V,σ=[some (.ref a),r]) ⟨Same.refl _,none,rfl⟩ ?_ ?_
 ·rintro i σ H1 hlt ⟨gg,r,rfl⟩
  have hS1:=gg.seq hS
  walk_at "rd"
  refine c_shows fun H2 g2=>?_
  walk_at "rd"
  exact ⟨gg.trans g2,_,rfl⟩
 ·rintro σ H1 ⟨gg,r,rfl⟩
  walk_at "rd"
  exact k _
theorem str_lt {x:Str} {t:Tok} (h:T (Lt x)=x):RelV (V.str (T (Lt x))) (.str x t):=⟨t,by rw [h]⟩
theorem sqm_ways {K:W.Frag} {p:Addr} {n:Nat} {t0 t1 t2 t3 t4:Tok} (h:K.lookup p=some { cls:=.type "tuple", data:=.seq #[.str "down" t0,.str "up" t1,.str "cut" t2,.str "near" t3,.str "even" t4] n }):SqM K p (tsV [Lt "down", Lt "up", Lt "cut", Lt "near", Lt "even"]):=fun H=>.mod (its:=[.str "down" t0,.str "up" t1,.str "cut" t2,.str "near" t3,.str "even" t4]) h (by simp) (.cons (str_lt (by decide +kernel)) (.cons (str_lt (by decide +kernel)) (.cons (str_lt (by decide +kernel)) (.cons (str_lt (by decide +kernel)) (.cons (str_lt (by decide +kernel)) .nil)))))
theorem kds_sets {w:World} {K:W.Frag} {d:Addr} {n0:Nat} {t0 t1 t2 t3:Tok} {v0 v1 v2 v3:Value} (lo:(d == sysModules)=false)
  (hd:K.lookup d=some { cls:=.type "dict", data:=.dict #[⟨PyData.keyHash w.params "lower", .str "lower" t0,v0⟩,⟨PyData.keyHash w.params "upper", .str "upper" t1,v1⟩,⟨PyData.keyHash w.params "figures", .str "figures" t2,v2⟩,⟨PyData.keyHash w.params "all", .str "all" t3,v3⟩] n0 }):KDs w K d ["lower", "upper", "figures", "all"]:=
 ⟨lo,[("lower", t0,v0),("upper", t1,v1),("figures", t2,v2),("all", t3,v3)],n0,hd,rfl,by decide +kernel,by decide⟩
theorem sqm_sides {K:W.Frag} {p:Addr} {n:Nat} {t0 t1 t2:Tok} (h:K.lookup p=some { cls:=.type "tuple", data:=.seq #[.str "left" t0,.str "right" t1,.str "middle" t2] n }):SqM K p (tsV [Lt "left", Lt "right", Lt "middle"]):=fun H=>.mod (its:=[.str "left" t0,.str "right" t1,.str "middle" t2]) h (by simp) (.cons (str_lt (by decide +kernel)) (.cons (str_lt (by decide +kernel)) (.cons (str_lt (by decide +kernel)) .nil)))
theorem sgsets_mk {w:World} {K:W.Frag} {d:Addr} {n0:Nat} {t0 t1 t2 t3 u0 u1 u2 u3:Tok} (lo:(d == sysModules)=false)
  (hd:K.lookup d=some { cls:=.type "dict", data:=.dict #[⟨PyData.keyHash w.params "lower", .str "lower" t0,.str lwrS u0⟩,⟨PyData.keyHash w.params "upper", .str "upper" t1,.str uppS u1⟩,⟨PyData.keyHash w.params "figures", .str "figures" t2,.str fgsS u2⟩,⟨PyData.keyHash w.params "all", .str "all" t3,.str allS u3⟩] n0 }):SgSets w K d:=by
 have ks : ∀ e,e ∈ #[(⟨PyData.keyHash w.params "lower", .str "lower" t0,.str lwrS u0⟩:DictEntry),⟨PyData.keyHash w.params "upper", .str "upper" t1,.str uppS u1⟩,⟨PyData.keyHash w.params "figures", .str "figures" t2,.str fgsS u2⟩,⟨PyData.keyHash w.params "all", .str "all" t3,.str allS u3⟩] → ∃ k,Value.isStrOf k e.key=true∧e.hash=hashStr w k:=by
  intro e he
  simp only [List.mem_toArray,List.mem_cons,List.not_mem_nil,or_false] at he
  rcases he with rfl | rfl | rfl | rfl
  ·exact ⟨"lower", by simp [Value.isStrOf],rfl⟩
  ·exact ⟨"upper", by simp [Value.isStrOf],rfl⟩
  ·exact ⟨"figures", by simp [Value.isStrOf],rfl⟩
  ·exact ⟨"all", by simp [Value.isStrOf],rfl⟩
 have fd : ∀ n v,KName n v → ∃ u,findBy Value.isStrOf #[(⟨PyData.keyHash w.params "lower", .str "lower" t0,.str lwrS u0⟩:DictEntry),⟨PyData.keyHash w.params "upper", .str "upper" t1,.str uppS u1⟩,⟨PyData.keyHash w.params "figures", .str "figures" t2,.str fgsS u2⟩,⟨PyData.keyHash w.params "all", .str "all" t3,.str allS u3⟩] n=some (.str v u):=by
  intro n v hk
  unfold findBy
  simp only [List.find?_toArray,List.find?_cons]
  rcases hk with ⟨rfl,rfl⟩ | ⟨rfl,rfl⟩ | ⟨rfl,rfl⟩ | ⟨rfl,rfl⟩
  ·exact ⟨u0,rfl⟩
  ·exact ⟨u1,rfl⟩
  ·exact ⟨u2,rfl⟩
  ·exact ⟨u3,rfl⟩
 refine ⟨fun n v hk=>?_,fun n v hk=>?_,fun l=>?_⟩
 ·obtain ⟨u,h⟩:=fd n v hk
  exact ⟨_,_,u,hd,ks,h⟩
 ·obtain ⟨u,h⟩:=fd n v hk
  exact ⟨lo,_,_,hd,ks,by rw [h];rfl⟩
 ·refine ⟨lo,_,_,hd,ks,?_⟩
  have no : ∀ z:Str,(Lt z).head? ≠ some 61 → ∀ t,Value.isStrOf (T (61::l)) (.str z t)=false:=fun z hz t=>by
   have:T (61::l)≠z:=fun e=>hz (by rw [← e,Lt_T];rfl)
   simp [Value.isStrOf]
   first | exact this | exact fun e=>this e.symm
  unfold findBy
  simp only [List.find?_toArray,List.find?_cons]
  rw [no "lower" (by decide +kernel),no "upper" (by decide +kernel),no "figures" (by decide +kernel),no "all" (by decide +kernel)]
  rfl
end
theorem all_mk {l:W.OpenLaw} {w:World} {K:W.Frag} {h:Heap} {mg:Str→Option Value} {fa f0 f1 f2 f3 f4 f5 f6 f7 f8 f9 f10 f11 f12 f13 f14 f15 f16 f17 f18 f19 f20 f21 f22 f23 f24 f25 f26 f27 f28 f29 f30 f31 f32 f33 f34 f35 f36 f37 f38 f39 f40 f41 f42 f43 f44 f45 f46 f47 f48 f49 f50 f51 f52 f53 f54 f55 f56 f57 f58 f59 f60 f61 f62 f63 f64 f65 f66 f67 f68 f69 f70 f71 f72 f73 f74 f75 f76 c_Form c_NumberForm c_WordForm c_ChoiceForm c_Words t_SIGN_SETS t_STYLES t_SIDES t_WAYS tD28 tD29 tD33:Addr} {t_FIGURES:Tok} {t_MOST_FIGURES:Tok} {odD28:Option Addr} {nD28:Nat} {slD28:Array (Option Value)} {ocD28 d28v0 d28v1 d28v2 d28v3:Value} {odD29:Option Addr} {nD29:Nat} {slD29:Array (Option Value)} {ocD29 d29v0 d29v1 d29v2 d29v3:Value} {odD33:Option Addr} {nD33:Nat} {slD33:Array (Option Value)} {ocD33 d33v0 d33v1 d33v2 d33v3 d33v4 d33v5 d33v6 d33v7 d33v8 d33v9:Value} (X:K.In h) (G:h.Ns mainGlobals mg) (hfa:mg "law" = some (.ref fa))
  (n_Form:W.nsIn K mainGlobals "Form" = some (some (.ref c_Form)))
  (n_NumberForm:W.nsIn K mainGlobals "NumberForm" = some (some (.ref c_NumberForm)))
  (n_WordForm:W.nsIn K mainGlobals "WordForm" = some (some (.ref c_WordForm)))
  (n_ChoiceForm:W.nsIn K mainGlobals "ChoiceForm" = some (some (.ref c_ChoiceForm)))
  (n_Words:W.nsIn K mainGlobals "Words" = some (some (.ref c_Words)))
  (n_SIGN_SETS:W.nsIn K mainGlobals "SIGN_SETS" = some (some (.ref t_SIGN_SETS)))
  (n_FIGURES:W.nsIn K mainGlobals "FIGURES" = some (some (.str "0123456789abcdef" t_FIGURES)))
  (n_MOST_FIGURES:W.nsIn K mainGlobals "MOST_FIGURES" = some (some (.int 240 t_MOST_FIGURES)))
  (n_STYLES:W.nsIn K mainGlobals "STYLES" = some (some (.ref t_STYLES)))
  (n_SIDES:W.nsIn K mainGlobals "SIDES" = some (some (.ref t_SIDES)))
  (n_WAYS:W.nsIn K mainGlobals "WAYS" = some (some (.ref t_WAYS)))
  (h0:Dm K "Words.__init__" "__init__" s_Words___init__ .none c_Words f0)
  (h1:Dm K "Words.peek" "peek" s_Words_peek .none c_Words f1)
  (h2:Dm K "Words.go_past" "go_past" s_Words_go_past .none c_Words f2)
  (h3:Dm K "Words.has_clause" "has_clause" s_Words_has_clause .none c_Words f3)
  (h4:Df K "told_number" s_told_number f4)
  (h5:Dm K "Words.take_number" "take_number" s_Words_take_number .none c_Words f5)
  (h6:Dm K "Words.take_sign" "take_sign" s_Words_take_sign .none c_Words f6)
  (h7:Dm K "Words.take_one_of" "take_one_of" s_Words_take_one_of .none c_Words f7)
  (h8:Df K "is_rising" s_is_rising f8)
  (h9:Df K "told_signs" s_told_signs f9)
  (h10:Dm K "Words.take_signs" "take_signs" s_Words_take_signs .none c_Words f10)
  (h11:Dm K "Words.take_name" "take_name" s_Words_take_name .none c_Words f11)
  (h12:Df K "read_last" s_read_last f12)
  (h13:Df K "read_groups" s_read_groups f13)
  (h14:Df K "figures_of" s_figures_of f14)
  (h15:Df K "number_of" s_number_of f15)
  (h16:Df K "power_of" s_power_of f16)
  (h17:Df K "goes_up" s_goes_up f17)
  (h18:Df K "gridded" s_gridded f18)
  (h19:Df K "parts_of" s_parts_of f19)
  (h20:Df K "grouped" s_grouped f20)
  (h21:Df K "body_of" s_body_of f21)
  (h22:Df K "ends_of" s_ends_of f22)
  (h23:Df K "signed" s_signed f23)
  (h24:Df K "is_whole" s_is_whole f24)
  (h25:Df K "common_divisor" s_common_divisor f25)
  (h26:Df K "is_fraction" s_is_fraction f26)
  (h27:Dm K "Form.__init__" "__init__" s_Form___init__ .none c_Form f27)
  (h28:Dm K "WordForm.__init__" "__init__" s_WordForm___init__ (.ref tD28) c_WordForm f28)
  (dl28:K.lookup tD28=some ⟨ocD28,odD28,.seq #[d28v0,d28v1,d28v2,d28v3] nD28,slD28⟩)
  (h29:Dm K "ChoiceForm.__init__" "__init__" s_ChoiceForm___init__ (.ref tD29) c_ChoiceForm f29)
  (dl29:K.lookup tD29=some ⟨ocD29,odD29,.seq #[d29v0,d29v1,d29v2,d29v3] nD29,slD29⟩)
  (h30:Dm K "WordForm.shortest_core" "shortest_core" s_WordForm_shortest_core .none c_WordForm f30)
  (h31:Dm K "ChoiceForm.shortest_core" "shortest_core" s_ChoiceForm_shortest_core .none c_ChoiceForm f31)
  (h32:Dm K "Form.is_too_wide" "is_too_wide" s_Form_is_too_wide .none c_Form f32)
  (h33:Dm K "NumberForm.__init__" "__init__" s_NumberForm___init__ (.ref tD33) c_NumberForm f33)
  (dl33:K.lookup tD33=some ⟨ocD33,odD33,.seq #[d33v0,d33v1,d33v2,d33v3,d33v4,d33v5,d33v6,d33v7,d33v8,d33v9] nD33,slD33⟩)
  (h34:Dm K "NumberForm.is_too_great" "is_too_great" s_NumberForm_is_too_great .none c_NumberForm f34)
  (h35:Dm K "NumberForm.core" "core" s_NumberForm_core .none c_NumberForm f35)
  (h36:Dm K "NumberForm.shortest_core" "shortest_core" s_NumberForm_shortest_core .none c_NumberForm f36)
  (h37:Dm K "Form.puts_some" "puts_some" s_Form_puts_some .none c_Form f37)
  (h38:Df K "read_word_form" s_read_word_form f38)
  (h39:Df K "read_choice_form" s_read_choice_form f39)
  (h40:Df K "read_number_form" s_read_number_form f40)
  (h41:Df K "read_words" s_read_words f41)
  (h42:Df K "is_text" s_is_text f42)
  (h43:Df K "read_form" s_read_form f43)
  (h44:Df K "_law_cell_at" s_law_cell_at f44)
  (h45:Df K "_law_pick" s_law_pick f45)
  (h46:Df K "_law_whole" s_law_whole f46)
  (h47:Df K "_law_all_signs" s_law_all_signs f47)
  (h48:Df K "_law_drawn_sign" s_law_drawn_sign f48)
  (h49:Df K "_law_number_spec" s_law_number_spec f49)
  (h50:Df K "_law_word_spec" s_law_word_spec f50)
  (h51:Df K "_law_near_names" s_law_near_names f51)
  (h52:Df K "_law_choice_spec" s_law_choice_spec f52)
  (h53:Df K "_law_shortest" s_law_shortest f53)
  (h54:Df K "_law_sets" s_law_sets f54)
  (h55:Df K "_law_signs_word" s_law_signs_word f55)
  (h56:Df K "_law_any_spec" s_law_any_spec f56)
  (h57:Df K "_law_sign_word" s_law_sign_word f57)
  (h58:Df K "_law_text_is" s_law_text_is f58)
  (h59:Df K "_law_first_rows" s_law_first_rows f59)
  (h60:Df K "_law_word_rows" s_law_word_rows f60)
  (h61:Df K "_law_form_text" s_law_form_text f61)
  (h62:Df K "_law_tail_is" s_law_tail_is f62)
  (h63:Df K "_law_class_is" s_law_class_is f63)
  (h64:Df K "_law_form_is" s_law_form_is f64)
  (h65:Df K "clause" s_clause f65)
  (h66:Df K "sign_word" s_sign_word f66)
  (h67:Df K "signs_word" s_signs_word f67)
  (h68:Df K "last_words" s_last_words f68)
  (h69:Df K "number_words" s_number_words f69)
  (h70:Df K "word_words" s_word_words f70)
  (h71:Df K "choice_words" s_choice_words f71)
  (h72:Df K "show_form" s_show_form f72)
  (h73:Df K "_law_number_form" s_law_number_form f73)
  (h74:Df K "_law_made_by" s_law_made_by f74)
  (h75:Df K "_law_shows_well" s_law_shows_well f75)
  (h76:Df K "law" s_law f76)
  (z_len:W.nsIn K mainGlobals "len" = some none)
  (z_range:W.nsIn K mainGlobals "range" = some none)
  (z_isinstance:W.nsIn K mainGlobals "isinstance" = some none)
  (z_str:W.nsIn K mainGlobals "str" = some none)
  (z_max:W.nsIn K mainGlobals "max" = some none)
  (z_min:W.nsIn K mainGlobals "min" = some none)
  (z_int:W.nsIn K mainGlobals "int" = some none)
  (z_bool:W.nsIn K mainGlobals "bool" = some none)
  (z_abs:W.nsIn K mainGlobals "abs" = some none)
  (z_list:W.nsIn K mainGlobals "list" = some none)
  (z_tuple:W.nsIn K mainGlobals "tuple" = some none)
  (z_all:W.nsIn K mainGlobals "all" = some none)
  (sty:Sty w K t_STYLES)
  (stk:KDs w K t_STYLES ["minus", "plus", "blank", "brackets", "behind"])
  (hW:SqM K t_WAYS (tsV [Lt "down", Lt "up", Lt "cut", Lt "near", Lt "even"]))
  (ss:SgSets w K t_SIGN_SETS)
  (ks:KDs w K t_SIGN_SETS ["lower", "upper", "figures", "all"])
  (hS:SqM K t_SIDES (tsV [Lt "left", Lt "right", Lt "middle"]))
  (ihn:W.specialIn K (.builtin "object.__class__") "__get__" = some (some (.builtin "getset_descriptor.__get__")))
  (iht:W.takesIn K (.builtin "object.__class__")=some true)
  (nha:W.findIn K (.ref c_NumberForm) "__class__" = some (some (.builtin "object.__class__")))
  (nhm:W.mroIn K c_NumberForm (.type "object")=some true)
  (nk1:W.kitOne K (.ref c_NumberForm) (.ref c_NumberForm)=some true)
  (nk2:W.kitOne K (.ref c_NumberForm) (.ref c_WordForm)=some false)
  (nk3:W.kitOne K (.ref c_NumberForm) (.ref c_ChoiceForm)=some false)
  (nk4:W.kitOne K (.ref c_NumberForm) (.ref c_Form)=some true)
  (wha:W.findIn K (.ref c_WordForm) "__class__" = some (some (.builtin "object.__class__")))
  (whm:W.mroIn K c_WordForm (.type "object")=some true)
  (wk1:W.kitOne K (.ref c_WordForm) (.ref c_NumberForm)=some false)
  (wk2:W.kitOne K (.ref c_WordForm) (.ref c_WordForm)=some true)
  (wk3:W.kitOne K (.ref c_WordForm) (.ref c_ChoiceForm)=some false)
  (wk4:W.kitOne K (.ref c_WordForm) (.ref c_Form)=some true)
  (cha:W.findIn K (.ref c_ChoiceForm) "__class__" = some (some (.builtin "object.__class__")))
  (chm:W.mroIn K c_ChoiceForm (.type "object")=some true)
  (ck1:W.kitOne K (.ref c_ChoiceForm) (.ref c_NumberForm)=some false)
  (ck2:W.kitOne K (.ref c_ChoiceForm) (.ref c_WordForm)=some false)
  (ck3:W.kitOne K (.ref c_ChoiceForm) (.ref c_ChoiceForm)=some true)
  (ck4:W.kitOne K (.ref c_ChoiceForm) (.ref c_Form)=some true)
  (K1_NumberForm:W.plainGet K c_NumberForm Str.empty=true)
  (K2_NumberForm:W.hasDictIn K c_NumberForm=true)
  (K3_NumberForm:W.plainOver K c_NumberForm=true)
  (K4_NumberForm:W.findIn K (.ref c_NumberForm) "__setattr__" = some (some (.builtin "object.__setattr__")))
  (N_NumberForm_width:W.findIn K (.ref c_NumberForm) "width" = some none)
  (N_NumberForm_fill:W.findIn K (.ref c_NumberForm) "fill" = some none)
  (N_NumberForm_side:W.findIn K (.ref c_NumberForm) "side" = some none)
  (N_NumberForm_strict:W.findIn K (.ref c_NumberForm) "strict" = some none)
  (N_NumberForm_figures:W.findIn K (.ref c_NumberForm) "figures" = some none)
  (N_NumberForm_places:W.findIn K (.ref c_NumberForm) "places" = some none)
  (N_NumberForm_base:W.findIn K (.ref c_NumberForm) "base" = some none)
  (N_NumberForm_sign:W.findIn K (.ref c_NumberForm) "sign" = some none)
  (N_NumberForm_size:W.findIn K (.ref c_NumberForm) "size" = some none)
  (N_NumberForm_mark:W.findIn K (.ref c_NumberForm) "mark" = some none)
  (N_NumberForm_point:W.findIn K (.ref c_NumberForm) "point" = some none)
  (N_NumberForm_way:W.findIn K (.ref c_NumberForm) "way" = some none)
  (K1_WordForm:W.plainGet K c_WordForm Str.empty=true)
  (K2_WordForm:W.hasDictIn K c_WordForm=true)
  (K3_WordForm:W.plainOver K c_WordForm=true)
  (K4_WordForm:W.findIn K (.ref c_WordForm) "__setattr__" = some (some (.builtin "object.__setattr__")))
  (N_WordForm_width:W.findIn K (.ref c_WordForm) "width" = some none)
  (N_WordForm_fill:W.findIn K (.ref c_WordForm) "fill" = some none)
  (N_WordForm_side:W.findIn K (.ref c_WordForm) "side" = some none)
  (N_WordForm_strict:W.findIn K (.ref c_WordForm) "strict" = some none)
  (N_WordForm_signs:W.findIn K (.ref c_WordForm) "signs" = some none)
  (N_WordForm_least:W.findIn K (.ref c_WordForm) "least" = some none)
  (N_WordForm_most:W.findIn K (.ref c_WordForm) "most" = some none)
  (K1_ChoiceForm:W.plainGet K c_ChoiceForm Str.empty=true)
  (K2_ChoiceForm:W.hasDictIn K c_ChoiceForm=true)
  (K3_ChoiceForm:W.plainOver K c_ChoiceForm=true)
  (K4_ChoiceForm:W.findIn K (.ref c_ChoiceForm) "__setattr__" = some (some (.builtin "object.__setattr__")))
  (N_ChoiceForm_width:W.findIn K (.ref c_ChoiceForm) "width" = some none)
  (N_ChoiceForm_fill:W.findIn K (.ref c_ChoiceForm) "fill" = some none)
  (N_ChoiceForm_side:W.findIn K (.ref c_ChoiceForm) "side" = some none)
  (N_ChoiceForm_strict:W.findIn K (.ref c_ChoiceForm) "strict" = some none)
  (N_ChoiceForm_names:W.findIn K (.ref c_ChoiceForm) "names" = some none)
  (K1_Words:W.plainGet K c_Words Str.empty=true)
  (K2_Words:W.hasDictIn K c_Words=true)
  (K3_Words:W.plainOver K c_Words=true)
  (K4_Words:W.findIn K (.ref c_Words) "__setattr__" = some (some (.builtin "object.__setattr__")))
  (N_Words_words:W.findIn K (.ref c_Words) "words" = some none)
  (N_Words_at:W.findIn K (.ref c_Words) "at" = some none)
  (Ma_Words_peek:W.findIn K (.ref c_Words) "peek" = some (some (.ref f1)))
  (Ma_Words_go_past:W.findIn K (.ref c_Words) "go_past" = some (some (.ref f2)))
  (Ma_Words_has_clause:W.findIn K (.ref c_Words) "has_clause" = some (some (.ref f3)))
  (Ma_Words_take_number:W.findIn K (.ref c_Words) "take_number" = some (some (.ref f5)))
  (Ma_Words_take_sign:W.findIn K (.ref c_Words) "take_sign" = some (some (.ref f6)))
  (Ma_Words_take_one_of:W.findIn K (.ref c_Words) "take_one_of" = some (some (.ref f7)))
  (C1_Form_init:W.specialIn K (.ref c_Form) "__getattribute__" = some (some (.builtin "type.__getattribute__")))
  (C2_Form_init:W.readsIn K c_Form (.type "type")=true)
  (C3_Form_init:W.findCls K (.ref c_Form) (.type "type") "__init__" = some (.val (.ref f27)))
  (Ma_NumberForm_is_too_great:W.findIn K (.ref c_NumberForm) "is_too_great" = some (some (.ref f34)))
  (Ma_NumberForm_core:W.findIn K (.ref c_NumberForm) "core" = some (some (.ref f35)))
  (Ma_NumberForm_is_too_wide:W.findIn K (.ref c_NumberForm) "is_too_wide" = some (some (.ref f32)))
  (Ma_WordForm_is_too_wide:W.findIn K (.ref c_WordForm) "is_too_wide" = some (some (.ref f32)))
  (Ma_ChoiceForm_is_too_wide:W.findIn K (.ref c_ChoiceForm) "is_too_wide" = some (some (.ref f32)))
  (Ma_NumberForm_shortest_core:W.findIn K (.ref c_NumberForm) "shortest_core" = some (some (.ref f36)))
  (Ma_WordForm_shortest_core:W.findIn K (.ref c_WordForm) "shortest_core" = some (some (.ref f30)))
  (Ma_ChoiceForm_shortest_core:W.findIn K (.ref c_ChoiceForm) "shortest_core" = some (some (.ref f31)))
  (Ma_Words_take_signs:W.findIn K (.ref c_Words) "take_signs" = some (some (.ref f10)))
  (I1_WordForm:W.makesIn K c_WordForm=true)
  (I2_WordForm:W.findIn K (.ref c_WordForm) "__init__" = some (some (.ref f28)))
  (I4_WordForm:W.keepIn K (.ref c_WordForm)=true)
  (I1_ChoiceForm:W.makesIn K c_ChoiceForm=true)
  (I2_ChoiceForm:W.findIn K (.ref c_ChoiceForm) "__init__" = some (some (.ref f29)))
  (I4_ChoiceForm:W.keepIn K (.ref c_ChoiceForm)=true)
  (Ma_Words_take_name:W.findIn K (.ref c_Words) "take_name" = some (some (.ref f11)))
  (I1_NumberForm:W.makesIn K c_NumberForm=true)
  (I2_NumberForm:W.findIn K (.ref c_NumberForm) "__init__" = some (some (.ref f33)))
  (I4_NumberForm:W.keepIn K (.ref c_NumberForm)=true)
  (I1_Words:W.makesIn K c_Words=true)
  (I2_Words:W.findIn K (.ref c_Words) "__init__" = some (some (.ref f0)))
  (I4_Words:W.keepIn K (.ref c_Words)=true)
  (Ma_NumberForm_puts_some:W.findIn K (.ref c_NumberForm) "puts_some" = some (some (.ref f37)))
  (Ma_WordForm_puts_some:W.findIn K (.ref c_WordForm) "puts_some" = some (some (.ref f37)))
  (Ma_ChoiceForm_puts_some:W.findIn K (.ref c_ChoiceForm) "puts_some" = some (some (.ref f37)))
  : ∃ fd:FuncData,(∀ (s:Shared) (v:Value),BindsTo s fd ⟨[v],[]⟩ [("_law_script", v)]) ∧ ∀ base:Heap,K.In base→base.Ns mainGlobals mg→FnOk l.prog w K mg base CX0 9 fa fd ["_law_script"] (sp_law K):=by
 obtain ⟨oc,od,kV,dc,pm,an,cd,ct,sl,aL,lL,cL,kL⟩:=h76
 have e:=hfa.symm.trans (W.mg_of X G aL)
 cases e
 have B:Blt mg:=⟨W.mg_none_of X G z_len,W.mg_none_of X G z_range,W.mg_none_of X G z_isinstance,W.mg_none_of X G z_str,W.mg_none_of X G z_max,W.mg_none_of X G z_min,W.mg_none_of X G z_int,W.mg_none_of X G z_bool,W.mg_none_of X G z_abs,W.mg_none_of X G z_list,W.mg_none_of X G z_tuple,W.mg_none_of X G z_all⟩
 refine ⟨W.fnOf "law" "law" (defArgs s_law) (defBody s_law) (defScope s_law) .none kV dc pm an cd ct,fun s v=>.of_eq rfl,fun base _ _=>?_⟩
 have g_SIGN_SETS:=W.mg_of X G n_SIGN_SETS
 have g_FIGURES:=W.mg_of X G n_FIGURES
 have g_MOST_FIGURES:=W.mg_of X G n_MOST_FIGURES
 have g_STYLES:=W.mg_of X G n_STYLES
 have g_SIDES:=W.mg_of X G n_SIDES
 have g_WAYS:=W.mg_of X G n_WAYS
 have m_Form:=W.mg_of X G n_Form
 have m_NumberForm:=W.mg_of X G n_NumberForm
 have m_WordForm:=W.mg_of X G n_WordForm
 have m_ChoiceForm:=W.mg_of X G n_ChoiceForm
 have m_Words:=W.mg_of X G n_Words
 have cl_NumberForm:Cls K c_NumberForm:=⟨K1_NumberForm,K2_NumberForm,K3_NumberForm,K4_NumberForm⟩
 have na_NumberForm:NoAttrs K c_NumberForm ["width", "fill", "side", "strict", "figures", "places", "base", "sign", "size", "mark", "point", "way"]:=⟨N_NumberForm_width,N_NumberForm_fill,N_NumberForm_side,N_NumberForm_strict,N_NumberForm_figures,N_NumberForm_places,N_NumberForm_base,N_NumberForm_sign,N_NumberForm_size,N_NumberForm_mark,N_NumberForm_point,N_NumberForm_way,trivial⟩
 have cl_WordForm:Cls K c_WordForm:=⟨K1_WordForm,K2_WordForm,K3_WordForm,K4_WordForm⟩
 have na_WordForm:NoAttrs K c_WordForm ["width", "fill", "side", "strict", "signs", "least", "most"]:=⟨N_WordForm_width,N_WordForm_fill,N_WordForm_side,N_WordForm_strict,N_WordForm_signs,N_WordForm_least,N_WordForm_most,trivial⟩
 have cl_ChoiceForm:Cls K c_ChoiceForm:=⟨K1_ChoiceForm,K2_ChoiceForm,K3_ChoiceForm,K4_ChoiceForm⟩
 have na_ChoiceForm:NoAttrs K c_ChoiceForm ["width", "fill", "side", "strict", "names"]:=⟨N_ChoiceForm_width,N_ChoiceForm_fill,N_ChoiceForm_side,N_ChoiceForm_strict,N_ChoiceForm_names,trivial⟩
 have cl_Words:Cls K c_Words:=⟨K1_Words,K2_Words,K3_Words,K4_Words⟩
 have na_Words:NoAttrs K c_Words ["words", "at"]:=⟨N_Words_words,N_Words_at,trivial⟩
 have G_Words___init__:Gd l.prog w K mg base CX0 f0 1 ["self", "words"] (sp_Words___init__ K c_Words):=dm_gd h0 (fun _ F=>ok_Words___init__ (c_Words:=c_Words) F B cl_Words na_Words) fun _ _ _ _ _ _ us hl=>match us,hl with | [_,_],_=>rfl
 have G_Words_peek:Gd l.prog w K mg base CX0 f1 1 ["self"] (sp_Words_peek K c_Words):=dm_gd h1 (fun _ F=>ok_Words_peek (c_Words:=c_Words) F B cl_Words na_Words) fun _ _ _ _ _ _ us hl=>match us,hl with | [_],_=>rfl
 have G_Words_go_past:Gd l.prog w K mg base CX0 f2 1 ["self", "can_stand"] (sp_Words_go_past K c_Words):=dm_gd h2 (fun _ F=>ok_Words_go_past (c_Words:=c_Words) F B cl_Words na_Words) fun _ _ _ _ _ _ us hl=>match us,hl with | [_,_],_=>rfl
 have G_Words_has_clause:Gd l.prog w K mg base CX0 f3 2 ["self", "word"] (sp_Words_has_clause K c_Words):=dm_gd h3 (fun _ F=>ok_Words_has_clause (c_Words:=c_Words) F B cl_Words (gd_M G_Words_peek Ma_Words_peek) cl_Words na_Words) fun _ _ _ _ _ _ us hl=>match us,hl with | [_,_],_=>rfl
 have H_number_of:Has l.prog w K mg base "number_of" 1 ["text", "base"] (sp_number_of K):=df_has X G h15 (fun _ F=>ok_number_of  F B g_MOST_FIGURES g_FIGURES) fun _ _ _ _ _ _ us hl=>match us,hl with | [_,_],_=>rfl
 have H_figures_of:Has l.prog w K mg base "figures_of" 1 ["number", "base"] (sp_figures_of K):=df_has X G h14 (fun _ F=>ok_figures_of  F B g_FIGURES) fun _ _ _ _ _ _ us hl=>match us,hl with | [_,_],_=>rfl
 have H_told_number:Has l.prog w K mg base "told_number" 2 ["word"] (sp_told_number K):=df_has X G h4 (fun _ F=>ok_told_number  F B H_number_of H_figures_of) fun _ _ _ _ _ _ us hl=>match us,hl with | [_],_=>rfl
 have G_Words_take_number:Gd l.prog w K mg base CX0 f5 3 ["self", "least", "most"] (sp_Words_take_number K c_Words):=dm_gd h5 (fun _ F=>ok_Words_take_number (c_Words:=c_Words) F B cl_Words H_told_number (gd_M G_Words_go_past Ma_Words_go_past) (gd_M G_Words_peek Ma_Words_peek)) fun _ _ _ _ _ _ us hl=>match us,hl with | [_,_,_],_=>rfl
 have G_Words_take_sign:Gd l.prog w K mg base CX0 f6 2 ["self"] (sp_Words_take_sign K c_Words):=dm_gd h6 (fun _ F=>ok_Words_take_sign (c_Words:=c_Words) F B cl_Words (gd_M G_Words_peek Ma_Words_peek) (gd_M G_Words_go_past Ma_Words_go_past)) fun _ _ _ _ _ _ us hl=>match us,hl with | [_],_=>rfl
 have G_Words_take_one_of:Gd l.prog w K mg base CX0 f7 2 ["self", "choices"] (sp_Words_take_one_of K c_Words):=dm_gd h7 (fun _ F=>ok_Words_take_one_of (c_Words:=c_Words) F B cl_Words (gd_M G_Words_peek Ma_Words_peek) (gd_M G_Words_go_past Ma_Words_go_past)) fun _ _ _ _ _ _ us hl=>match us,hl with | [_,_],_=>rfl
 have H_is_rising:Has l.prog w K mg base "is_rising" 1 ["signs"] (sp_is_rising K):=df_has X G h8 (fun _ F=>ok_is_rising  F B ) fun _ _ _ _ _ _ us hl=>match us,hl with | [_],_=>rfl
 have H_told_signs:Has l.prog w K mg base "told_signs" 2 ["word"] (sp_told_signs K):=df_has X G h9 (fun _ F=>ok_told_signs  F B H_is_rising g_SIGN_SETS ss) fun _ _ _ _ _ _ us hl=>match us,hl with | [_],_=>rfl
 have G_Words_take_signs:Gd l.prog w K mg base CX0 f10 3 ["self"] (sp_Words_take_signs K c_Words):=dm_gd h10 (fun _ F=>ok_Words_take_signs (c_Words:=c_Words) F B cl_Words H_told_signs (gd_M G_Words_go_past Ma_Words_go_past) (gd_M G_Words_peek Ma_Words_peek)) fun _ _ _ _ _ _ us hl=>match us,hl with | [_],_=>rfl
 have G_Words_take_name:Gd l.prog w K mg base CX0 f11 2 ["self", "names"] (sp_Words_take_name K c_Words):=dm_gd h11 (fun _ F=>ok_Words_take_name (c_Words:=c_Words) F B cl_Words (gd_M G_Words_peek Ma_Words_peek) (gd_M G_Words_go_past Ma_Words_go_past)) fun _ _ _ _ _ _ us hl=>match us,hl with | [_,_],_=>rfl
 have H_read_last:Has l.prog w K mg base "read_last" 4 ["words", "sides", "side"] (sp_read_last K c_Words):=df_has X G h12 (fun _ F=>ok_read_last (c_Words:=c_Words) F B cl_Words (gd_M G_Words_has_clause Ma_Words_has_clause) (gd_M G_Words_take_number Ma_Words_take_number) (gd_M G_Words_take_sign Ma_Words_take_sign) (gd_M G_Words_take_one_of Ma_Words_take_one_of)) fun _ _ _ _ _ _ us hl=>match us,hl with | [_,_,_],_=>rfl
 have H_read_groups:Has l.prog w K mg base "read_groups" 4 ["words"] (sp_read_groups K c_Words):=df_has X G h13 (fun _ F=>ok_read_groups (c_Words:=c_Words) F B cl_Words (gd_M G_Words_take_number Ma_Words_take_number) (gd_M G_Words_has_clause Ma_Words_has_clause) (gd_M G_Words_take_sign Ma_Words_take_sign)) fun _ _ _ _ _ _ us hl=>match us,hl with | [_],_=>rfl
 have H_power_of:Has l.prog w K mg base "power_of" 1 ["base", "times"] (sp_power_of K):=df_has X G h16 (fun _ F=>ok_power_of  F B ) fun _ _ _ _ _ _ us hl=>match us,hl with | [_,_],_=>rfl
 have H_goes_up:Has l.prog w K mg base "goes_up" 1 ["below", "rest", "bottom", "way"] (sp_goes_up K):=df_has X G h17 (fun _ F=>ok_goes_up  F B ) fun _ _ _ _ _ _ us hl=>match us,hl with | [_,_,_,_],_=>rfl
 have H_gridded:Has l.prog w K mg base "gridded" 2 ["value", "base", "places", "way"] (sp_gridded K):=df_has X G h18 (fun _ F=>ok_gridded  F B H_power_of H_goes_up) fun _ _ _ _ _ _ us hl=>match us,hl with | [_,_,_,_],_=>rfl
 have H_parts_of:Has l.prog w K mg base "parts_of" 1 ["text", "size", "between"] (sp_parts_of K):=df_has X G h19 (fun _ F=>ok_parts_of  F B ) fun _ _ _ _ _ _ us hl=>match us,hl with | [_,_,_],_=>rfl
 have H_grouped:Has l.prog w K mg base "grouped" 2 ["text", "size", "mark"] (sp_grouped K):=df_has X G h20 (fun _ F=>ok_grouped  F B H_parts_of) fun _ _ _ _ _ _ us hl=>match us,hl with | [_,_,_],_=>rfl
 have H_body_of:Has l.prog w K mg base "body_of" 3 ["number", "base", "places", "point", "size", "mark"] (sp_body_of K):=df_has X G h21 (fun _ F=>ok_body_of  F B H_grouped H_figures_of) fun _ _ _ _ _ _ us hl=>match us,hl with | [_,_,_,_,_,_],_=>rfl
 have H_ends_of:Has l.prog w K mg base "ends_of" 1 ["style", "below"] (sp_ends_of K):=df_has X G h22 (fun _ F=>ok_ends_of  F B g_STYLES sty) fun _ _ _ _ _ _ us hl=>match us,hl with | [_,_],_=>rfl
 have H_signed:Has l.prog w K mg base "signed" 2 ["body", "style", "below"] (sp_signed K):=df_has X G h23 (fun _ F=>ok_signed  F B H_ends_of) fun _ _ _ _ _ _ us hl=>match us,hl with | [_,_,_],_=>rfl
 have H_is_whole:Has l.prog w K mg base "is_whole" 1 ["thing"] (sp_is_whole K):=df_has X G h24 (fun _ F=>ok_is_whole  F B ) fun _ _ _ _ _ _ us hl=>match us,hl with | [_],_=>rfl
 have H_common_divisor:Has l.prog w K mg base "common_divisor" 1 ["one", "other"] (sp_common_divisor K):=df_has X G h25 (fun _ F=>ok_common_divisor  F B ) fun _ _ _ _ _ _ us hl=>match us,hl with | [_,_],_=>rfl
 have H_is_fraction:Has l.prog w K mg base "is_fraction" 2 ["thing"] (sp_is_fraction K):=df_has X G h26 (fun _ F=>ok_is_fraction  F B H_is_whole H_common_divisor) fun _ _ _ _ _ _ us hl=>match us,hl with | [_],_=>rfl
 have G_Form___init__:Gd l.prog w K mg base CX0 f27 1 ["self", "width", "fill", "side", "strict"] (sp_Form___init__ K):=dm_gd h27 (fun _ F=>ok_Form___init__  F B ) fun _ _ _ _ _ _ us hl=>match us,hl with | [_,_,_,_,_],_=>rfl
 have G_WordForm___init__:Gd l.prog w K mg base CX0 f28 2 ["self", "signs", "least", "most", "width", "fill", "side", "strict"] (sp_WordForm___init__ K c_WordForm):=dm_gdD h28 dl28 (fun _ F=>ok_WordForm___init__ (c_Form:=c_Form) (c_WordForm:=c_WordForm) F B m_Form (gd_C G_Form___init__ C1_Form_init C2_Form_init C3_Form_init) cl_WordForm na_WordForm) fun _ _ _ _ _ _ us hl=>match us,hl with | [_,_,_,_,_,_,_,_],_=>⟨_,rfl,rfl⟩
 have G_ChoiceForm___init__:Gd l.prog w K mg base CX0 f29 2 ["self", "names", "width", "fill", "side", "strict"] (sp_ChoiceForm___init__ K c_ChoiceForm):=dm_gdD h29 dl29 (fun _ F=>ok_ChoiceForm___init__ (c_Form:=c_Form) (c_ChoiceForm:=c_ChoiceForm) F B m_Form (gd_C G_Form___init__ C1_Form_init C2_Form_init C3_Form_init) cl_ChoiceForm na_ChoiceForm) fun _ _ _ _ _ _ us hl=>match us,hl with | [_,_,_,_,_,_],_=>⟨_,rfl,rfl⟩
 have G_WordForm_shortest_core:Gd l.prog w K mg base CX0 f30 1 ["self"] (sp_WordForm_shortest_core K c_WordForm):=dm_gd h30 (fun _ F=>ok_WordForm_shortest_core (c_WordForm:=c_WordForm) F B ) fun _ _ _ _ _ _ us hl=>match us,hl with | [_],_=>rfl
 have G_ChoiceForm_shortest_core:Gd l.prog w K mg base CX0 f31 1 ["self"] (sp_ChoiceForm_shortest_core K c_ChoiceForm):=dm_gd h31 (fun _ F=>ok_ChoiceForm_shortest_core (c_ChoiceForm:=c_ChoiceForm) F B ) fun _ _ _ _ _ _ us hl=>match us,hl with | [_],_=>rfl
 have G_Form_is_too_wide:Gd l.prog w K mg base CX0 f32 1 ["self", "core"] (sp_Form_is_too_wide K):=dm_gd h32 (fun _ F=>ok_Form_is_too_wide  F B ) fun _ _ _ _ _ _ us hl=>match us,hl with | [_,_],_=>rfl
 have G_NumberForm___init__:Gd l.prog w K mg base CX0 f33 2 ["self", "figures", "places", "base", "sign", "size", "mark", "point", "way", "width", "fill", "side", "strict"] (sp_NumberForm___init__ K c_NumberForm):=dm_gdD h33 dl33 (fun _ F=>ok_NumberForm___init__ (c_Form:=c_Form) (c_NumberForm:=c_NumberForm) F B m_Form (gd_C G_Form___init__ C1_Form_init C2_Form_init C3_Form_init) cl_NumberForm na_NumberForm) fun _ _ _ _ _ _ us hl=>match us,hl with | [_,_,_,_,_,_,_,_,_,_,_,_,_],_=>⟨_,rfl,rfl⟩
 have G_NumberForm_is_too_great:Gd l.prog w K mg base CX0 f34 2 ["self", "number"] (sp_NumberForm_is_too_great K c_NumberForm):=dm_gd h34 (fun _ F=>ok_NumberForm_is_too_great (c_NumberForm:=c_NumberForm) F B H_power_of) fun _ _ _ _ _ _ us hl=>match us,hl with | [_,_],_=>rfl
 have G_NumberForm_core:Gd l.prog w K mg base CX0 f35 4 ["self", "value"] (sp_NumberForm_core K c_NumberForm):=dm_gd h35 (fun _ F=>ok_NumberForm_core (c_NumberForm:=c_NumberForm) F B cl_NumberForm H_gridded H_body_of H_signed H_is_fraction (gd_M G_NumberForm_is_too_great Ma_NumberForm_is_too_great)) fun _ _ _ _ _ _ us hl=>match us,hl with | [_,_],_=>rfl
 have G_NumberForm_shortest_core:Gd l.prog w K mg base CX0 f36 5 ["self"] (sp_NumberForm_shortest_core K c_NumberForm):=dm_gd h36 (fun _ F=>ok_NumberForm_shortest_core (c_NumberForm:=c_NumberForm) F B cl_NumberForm (gd_M G_NumberForm_core Ma_NumberForm_core)) fun _ _ _ _ _ _ us hl=>match us,hl with | [_],_=>rfl
 have G_Form_puts_some:Gd l.prog w K mg base CX0 f37 6 ["self"] (sp_Form_puts_some K c_NumberForm c_WordForm c_ChoiceForm):=dm_gd h37 (fun _ F=>ok_Form_puts_some (c_NumberForm:=c_NumberForm) (c_WordForm:=c_WordForm) (c_ChoiceForm:=c_ChoiceForm) F B cl_NumberForm cl_WordForm cl_ChoiceForm (gd_M G_Form_is_too_wide Ma_NumberForm_is_too_wide) (gd_M G_Form_is_too_wide Ma_WordForm_is_too_wide) (gd_M G_Form_is_too_wide Ma_ChoiceForm_is_too_wide) (gd_M G_NumberForm_shortest_core Ma_NumberForm_shortest_core) (gd_M G_WordForm_shortest_core Ma_WordForm_shortest_core) (gd_M G_ChoiceForm_shortest_core Ma_ChoiceForm_shortest_core)) fun _ _ _ _ _ _ us hl=>match us,hl with | [_],_=>rfl
 have H_read_word_form:Has l.prog w K mg base "read_word_form" 5 ["words"] (sp_read_word_form K c_Words c_WordForm):=df_has X G h38 (fun _ F=>ok_read_word_form (c_Words:=c_Words) (c_WordForm:=c_WordForm) F B cl_Words m_WordForm H_read_last (gd_M G_Words_take_signs Ma_Words_take_signs) (gd_M G_Words_take_number Ma_Words_take_number) (gd_M G_Words_has_clause Ma_Words_has_clause) (gd_I G_WordForm___init__ I1_WordForm I2_WordForm I4_WordForm) g_SIDES cl_WordForm na_WordForm hS) fun _ _ _ _ _ _ us hl=>match us,hl with | [_],_=>rfl
 have H_read_choice_form:Has l.prog w K mg base "read_choice_form" 5 ["words"] (sp_read_choice_form K c_Words c_ChoiceForm):=df_has X G h39 (fun _ F=>ok_read_choice_form (c_Words:=c_Words) (c_ChoiceForm:=c_ChoiceForm) F B cl_Words m_ChoiceForm H_read_last (gd_M G_Words_take_number Ma_Words_take_number) (gd_I G_ChoiceForm___init__ I1_ChoiceForm I2_ChoiceForm I4_ChoiceForm) (gd_M G_Words_take_name Ma_Words_take_name) g_SIDES cl_ChoiceForm na_ChoiceForm hS) fun _ _ _ _ _ _ us hl=>match us,hl with | [_],_=>rfl
 have H_read_number_form:Has l.prog w K mg base "read_number_form" 5 ["words"] (sp_read_number_form K c_Words c_NumberForm):=df_has X G h40 (fun _ F=>ok_read_number_form (c_Words:=c_Words) (c_NumberForm:=c_NumberForm) F B cl_Words m_NumberForm H_read_groups H_read_last (gd_M G_Words_take_number Ma_Words_take_number) (gd_I G_NumberForm___init__ I1_NumberForm I2_NumberForm I4_NumberForm) (gd_M G_Words_has_clause Ma_Words_has_clause) (gd_M G_Words_take_one_of Ma_Words_take_one_of) (gd_M G_Words_take_sign Ma_Words_take_sign) g_WAYS g_SIDES g_STYLES cl_NumberForm na_NumberForm stk hW hS) fun _ _ _ _ _ _ us hl=>match us,hl with | [_],_=>rfl
 have H_read_words:Has l.prog w K mg base "read_words" 6 ["words"] (sp_read_words K c_Words c_NumberForm c_WordForm c_ChoiceForm):=df_has X G h41 (fun _ F=>ok_read_words (c_Words:=c_Words) (c_NumberForm:=c_NumberForm) (c_WordForm:=c_WordForm) (c_ChoiceForm:=c_ChoiceForm) F B cl_Words H_read_choice_form H_read_number_form H_read_word_form (gd_M G_Words_take_one_of Ma_Words_take_one_of)) fun _ _ _ _ _ _ us hl=>match us,hl with | [_],_=>rfl
 have H_is_text:Has l.prog w K mg base "is_text" 1 ["thing"] (sp_is_text K):=df_has X G h42 (fun _ F=>ok_is_text  F B g_SIGN_SETS ss) fun _ _ _ _ _ _ us hl=>match us,hl with | [_],_=>rfl
 have H_read_form:Has l.prog w K mg base "read_form" 7 ["text"] (sp_read_form K c_NumberForm c_WordForm c_ChoiceForm):=df_has X G h43 (fun _ F=>ok_read_form (c_Words:=c_Words) (c_NumberForm:=c_NumberForm) (c_WordForm:=c_WordForm) (c_ChoiceForm:=c_ChoiceForm) F B cl_NumberForm cl_WordForm cl_ChoiceForm m_Words H_read_words H_is_text (gd_I G_Words___init__ I1_Words I2_Words I4_Words) (gd_M G_Form_puts_some Ma_NumberForm_puts_some) (gd_M G_Form_puts_some Ma_WordForm_puts_some) (gd_M G_Form_puts_some Ma_ChoiceForm_puts_some) cl_Words na_Words) fun _ _ _ _ _ _ us hl=>match us,hl with | [_],_=>rfl
 have H_law_cell_at:Has l.prog w K mg base "_law_cell_at" 1 ["_law_script", "_law_k"] (sp_law_cell_at K):=df_has X G h44 (fun _ F=>ok_law_cell_at  F B ) fun _ _ _ _ _ _ us hl=>match us,hl with | [_,_],_=>rfl
 have H_law_pick:Has l.prog w K mg base "_law_pick" 1 ["_law_cell", "_law_salt", "_law_many"] (sp_law_pick K):=df_has X G h45 (fun _ F=>ok_law_pick  F B ) fun _ _ _ _ _ _ us hl=>match us,hl with | [_,_,_],_=>rfl
 have H_law_whole:Has l.prog w K mg base "_law_whole" 1 ["_law_thing"] (sp_law_whole K):=df_has X G h46 (fun _ F=>ok_law_whole  F B ) fun _ _ _ _ _ _ us hl=>match us,hl with | [_],_=>rfl
 have H_law_all_signs:Has l.prog w K mg base "_law_all_signs" 1 [] (sp_law_all_signs K):=df_has X G h47 (fun _ F=>ok_law_all_signs  F B ) fun _ _ _ _ _ _ us hl=>match us,hl with | [],_=>rfl
 have H_law_drawn_sign:Has l.prog w K mg base "_law_drawn_sign" 2 ["_law_cell", "_law_salt"] (sp_law_drawn_sign K):=df_has X G h48 (fun _ F=>ok_law_drawn_sign  F B H_law_pick H_law_all_signs) fun _ _ _ _ _ _ us hl=>match us,hl with | [_,_],_=>rfl
 have H_law_number_spec:Has l.prog w K mg base "_law_number_spec" 3 ["_law_cell", "_law_other", "_law_small"] (sp_law_number_spec K):=df_has X G h49 (fun _ F=>ok_law_number_spec  F B H_law_pick H_law_drawn_sign) fun _ _ _ _ _ _ us hl=>match us,hl with | [_,_,_],_=>rfl
 have H_law_word_spec:Has l.prog w K mg base "_law_word_spec" 3 ["_law_cell", "_law_other", "_law_small"] (sp_law_word_spec K):=df_has X G h50 (fun _ F=>ok_law_word_spec  F B H_law_pick H_law_all_signs H_law_drawn_sign) fun _ _ _ _ _ _ us hl=>match us,hl with | [_,_,_],_=>rfl
 have H_law_near_names:Has l.prog w K mg base "_law_near_names" 2 ["_law_cell", "_law_many"] (sp_law_near_names K):=df_has X G h51 (fun _ F=>ok_law_near_names  F B H_law_pick H_law_all_signs) fun _ _ _ _ _ _ us hl=>match us,hl with | [_,_],_=>rfl
 have H_law_choice_spec:Has l.prog w K mg base "_law_choice_spec" 3 ["_law_cell", "_law_other", "_law_small"] (sp_law_choice_spec K):=df_has X G h52 (fun _ F=>ok_law_choice_spec  F B H_law_near_names H_law_pick H_law_drawn_sign) fun _ _ _ _ _ _ us hl=>match us,hl with | [_,_,_],_=>rfl
 have H_law_shortest:Has l.prog w K mg base "_law_shortest" 1 ["_law_spec"] (sp_law_shortest K):=df_has X G h53 (fun _ F=>ok_law_shortest  F B ) fun _ _ _ _ _ _ us hl=>match us,hl with | [_],_=>rfl
 have H_law_sets:Has l.prog w K mg base "_law_sets" 2 [] (sp_law_sets K):=df_has X G h54 (fun _ F=>ok_law_sets  F B H_law_all_signs) fun _ _ _ _ _ _ us hl=>match us,hl with | [],_=>rfl
 have H_law_signs_word:HasP l.prog w K mg base "_law_signs_word" 3 ["_law_signs", "_law_bits"] (sp_law_signs_word K):=df_hasP X G h55 (fun _ F=>ok_law_signs_word  F B H_law_sets) fun _ _ _ _ _ _ us hl=>match us,hl with | [_,_],_=>rfl
 have H_law_any_spec:Has l.prog w K mg base "_law_any_spec" 4 ["_law_cell", "_law_other", "_law_sort"] (sp_law_any_spec K):=df_has X G h56 (fun _ F=>ok_law_any_spec  F B H_law_number_spec H_law_word_spec H_law_choice_spec H_law_pick H_law_shortest H_law_sets) fun _ _ _ _ _ _ us hl=>match us,hl with | [_,_,_],_=>rfl
 have H_law_sign_word:Has l.prog w K mg base "_law_sign_word" 1 ["_law_sign"] (sp_law_sign_word K):=df_has X G h57 (fun _ F=>ok_law_sign_word  F B ) fun _ _ _ _ _ _ us hl=>match us,hl with | [_],_=>rfl
 have H_law_text_is:Has l.prog w K mg base "_law_text_is" 1 ["_law_found", "_law_due"] (sp_law_text_is K):=df_has X G h58 (fun _ F=>ok_law_text_is  F B ) fun _ _ _ _ _ _ us hl=>match us,hl with | [_,_],_=>rfl
 have H_law_first_rows:Has l.prog w K mg base "_law_first_rows" 4 ["_law_spec", "_law_bits"] (sp_law_first_rows K):=df_has X G h59 (fun _ F=>ok_law_first_rows  F B H_law_signs_word H_law_sign_word) fun _ _ _ _ _ _ us hl=>match us,hl with | [_,_],_=>rfl
 have H_law_word_rows:Has l.prog w K mg base "_law_word_rows" 5 ["_law_spec", "_law_bits"] (sp_law_word_rows K):=df_has X G h60 (fun _ F=>ok_law_word_rows  F B H_law_first_rows H_law_sign_word) fun _ _ _ _ _ _ us hl=>match us,hl with | [_,_],_=>rfl
 have H_law_form_text:Has l.prog w K mg base "_law_form_text" 6 ["_law_spec", "_law_bits"] (sp_law_form_text K):=df_has X G h61 (fun _ F=>ok_law_form_text  F B H_law_word_rows) fun _ _ _ _ _ _ us hl=>match us,hl with | [_,_],_=>rfl
 have H_law_tail_is:Has l.prog w K mg base "_law_tail_is" 2 ["_law_form", "_law_spec"] (sp_law_tail_is K):=df_has X G h62 (fun _ F=>ok_law_tail_is  F B H_law_text_is H_law_whole) fun _ _ _ _ _ _ us hl=>match us,hl with | [_,_],_=>rfl
 have H_law_class_is:Has l.prog w K mg base "_law_class_is" 1 ["_law_form", "_law_spec"] (sp_law_class_is K c_NumberForm c_WordForm c_ChoiceForm):=df_has X G h63 (fun _ F=>ok_law_class_is (c_NumberForm:=c_NumberForm) (c_WordForm:=c_WordForm) (c_ChoiceForm:=c_ChoiceForm) F B m_NumberForm m_WordForm m_ChoiceForm m_Form ⟨cl_NumberForm,nha,ihn,iht,nhm,nk1,nk2,nk3,nk4⟩ ⟨cl_WordForm,wha,ihn,iht,whm,wk1,wk2,wk3,wk4⟩ ⟨cl_ChoiceForm,cha,ihn,iht,chm,ck1,ck2,ck3,ck4⟩) fun _ _ _ _ _ _ us hl=>match us,hl with | [_,_],_=>rfl
 have H_law_form_is:Has l.prog w K mg base "_law_form_is" 3 ["_law_form", "_law_spec"] (sp_law_form_is K c_NumberForm c_WordForm c_ChoiceForm):=df_has X G h64 (fun _ F=>ok_law_form_is (c_NumberForm:=c_NumberForm) (c_WordForm:=c_WordForm) (c_ChoiceForm:=c_ChoiceForm) F B H_law_text_is H_law_class_is H_law_tail_is H_law_whole) fun _ _ _ _ _ _ us hl=>match us,hl with | [_,_],_=>rfl
 have H_clause:Has l.prog w K mg base "clause" 1 ["name", "word", "untold"] (sp_clause K):=df_has X G h65 (fun _ F=>ok_clause  F B ) fun _ _ _ _ _ _ us hl=>match us,hl with | [_,_,_],_=>rfl
 have H_sign_word:Has l.prog w K mg base "sign_word" 1 ["sign"] (sp_sign_word K):=df_has X G h66 (fun _ F=>ok_sign_word  F B ) fun _ _ _ _ _ _ us hl=>match us,hl with | [_],_=>rfl
 have H_signs_word:Has l.prog w K mg base "signs_word" 1 ["signs"] (sp_signs_word K):=df_has X G h67 (fun _ F=>ok_signs_word  F B g_SIGN_SETS ss ks) fun _ _ _ _ _ _ us hl=>match us,hl with | [_],_=>rfl
 have H_last_words:Has l.prog w K mg base "last_words" 2 ["form", "side"] (sp_last_words K):=df_has X G h68 (fun _ F=>ok_last_words  F B H_clause H_sign_word) fun _ _ _ _ _ _ us hl=>match us,hl with | [_,_],_=>rfl
 have H_number_words:Has l.prog w K mg base "number_words" 2 ["form"] (sp_number_words K c_NumberForm):=df_has X G h69 (fun _ F=>ok_number_words (c_NumberForm:=c_NumberForm) F B H_clause H_sign_word) fun _ _ _ _ _ _ us hl=>match us,hl with | [_],_=>rfl
 have H_word_words:Has l.prog w K mg base "word_words" 2 ["form"] (sp_word_words K c_WordForm):=df_has X G h70 (fun _ F=>ok_word_words (c_WordForm:=c_WordForm) F B H_signs_word) fun _ _ _ _ _ _ us hl=>match us,hl with | [_],_=>rfl
 have H_choice_words:Has l.prog w K mg base "choice_words" 1 ["form"] (sp_choice_words K c_ChoiceForm):=df_has X G h71 (fun _ F=>ok_choice_words (c_ChoiceForm:=c_ChoiceForm) F B ) fun _ _ _ _ _ _ us hl=>match us,hl with | [_],_=>rfl
 have H_show_form:Has l.prog w K mg base "show_form" 3 ["form"] (sp_show_form K c_NumberForm c_WordForm c_ChoiceForm):=df_has X G h72 (fun _ F=>ok_show_form (c_NumberForm:=c_NumberForm) (c_WordForm:=c_WordForm) (c_ChoiceForm:=c_ChoiceForm) F B H_number_words H_last_words H_word_words H_choice_words m_NumberForm m_WordForm ⟨cl_NumberForm,nha,ihn,iht,nhm,nk1,nk2,nk3,nk4⟩ ⟨cl_WordForm,wha,ihn,iht,whm,wk1,wk2,wk3,wk4⟩ ⟨cl_ChoiceForm,cha,ihn,iht,chm,ck1,ck2,ck3,ck4⟩) fun _ _ _ _ _ _ us hl=>match us,hl with | [_],_=>rfl
 have H_law_number_form:Has l.prog w K mg base "_law_number_form" 4 ["_law_spec"] (sp_law_number_form K c_NumberForm):=df_has X G h73 (fun _ F=>ok_law_number_form (c_NumberForm:=c_NumberForm) F B m_NumberForm (gd_I G_NumberForm___init__ I1_NumberForm I2_NumberForm I4_NumberForm) cl_NumberForm na_NumberForm) fun _ _ _ _ _ _ us hl=>match us,hl with | [_],_=>rfl
 have H_law_made_by:Has l.prog w K mg base "_law_made_by" 5 ["_law_spec"] (sp_law_made_by K c_NumberForm c_WordForm c_ChoiceForm):=df_has X G h74 (fun _ F=>ok_law_made_by (c_ChoiceForm:=c_ChoiceForm) (c_WordForm:=c_WordForm) (c_NumberForm:=c_NumberForm) F B m_ChoiceForm m_WordForm H_law_number_form (gd_I G_ChoiceForm___init__ I1_ChoiceForm I2_ChoiceForm I4_ChoiceForm) (gd_I G_WordForm___init__ I1_WordForm I2_WordForm I4_WordForm) cl_WordForm na_WordForm cl_ChoiceForm na_ChoiceForm) fun _ _ _ _ _ _ us hl=>match us,hl with | [_],_=>rfl
 have H_law_shows_well:Has l.prog w K mg base "_law_shows_well" 8 ["_law_cell", "_law_other"] (sp_law_shows_well K):=df_has X G h75 (fun _ F=>ok_law_shows_well (c_NumberForm:=c_NumberForm) (c_WordForm:=c_WordForm) (c_ChoiceForm:=c_ChoiceForm) F B H_law_any_spec H_law_form_text H_law_made_by H_read_form H_law_text_is H_law_pick H_show_form H_law_form_is) fun _ _ _ _ _ _ us hl=>match us,hl with | [_,_],_=>rfl
 exact ok_law  (fun_mk (st:=s_law) lL cL kL) B H_law_shows_well H_law_cell_at
theorem walk {l:W.OpenLaw} {q:Program} {loose:List Str} {XP:(Str→Option Value)→Heap→Prop} {YP:World→Heap→Prop} {d:DefRec} {K:Params→W.Frag} (hn:l.most=some 63) (hdf:d.params.defaults=[])
  (hY : ∀ (w:World) (h:Heap),YP w h→(K w.params).In h)
  (F : ∀ (w:World) (mg:Str→Option Value) (fa:Addr) (h:Heap),(K w.params).In h→h.Ns mainGlobals mg→mg d.name=some (.ref fa) →
   ∃ fd:FuncData,(∀ (s:Shared) (u:Value),BindsTo s fd ⟨[u],[]⟩ [("_law_script", u)]) ∧ ∀ base:Heap,(K w.params).In base→base.Ns mainGlobals mg→FnOk l.prog w (K w.params) mg base CX0 9 fa fd ["_law_script"] (sp_law (K w.params))) :
  W.WalkO q loose XP YP l.row.toRowW d [] (fun f vs=>PySem.call f vs):=
 L2.walk_of (n:=63) (k:=9) (x:="_law_script") (CX:=fun _=>CX0) (sp:=fun w=>sp_law (K w.params)) hn (by decide) hdf ⟨rfl,by decide,by decide⟩ hY F (fun _ _ a ns hl _ hS=>⟨a,ns,rfl,hS,hl,fun _=>rfl⟩) fun _ _ _ _ _ z=>z
end Pw
namespace PySem.W.Fast
def tw3680081058693774146:=0
def tw2540670319090522718:=0
def tw297517398454899611:=0
def tw17111927802965480652:=0
def tw14231373236938934789:=0
def tw5243463984416568654:=0
def tw12015937654086781859:=0
def tw9542443300797471754:=0
def tw10000771812279301053:=0
def tw9330857289600918683:=0
def tw5072117797918407612:=0
def tw2486990272626930867:=0
def tw11529596862105473786:=0
def tw568700733795961143:=0
def tw9989534889754904768:=0
def tw11817910660295082624:=0
def tw533614062262633577:=0
def tw8229495947648783125:=0
def tw1154227166285103819:=0
def tw4610008788857358508:=0
def tw8801070509023731324:=0
def tw7684292994343385512:=0
def tw8016263182062261589:=0
def tw2202238197522745188:=0
def tw2745332232258888131:=0
def tw3377412602438082258:=0
def tw10649560088005340937:=0
def tw4500777964464082931:=0
def tw5635125188584891361:=0
def tw7059737035107292762:=0
def tw17099345264778195046:=0
def tw14340931996596660554:=0
def tw12113711102800268593:=0
def tw3845440299632161004:=0
def tw931001191220416153:=0
def tw11809447193221933793:=0
def tw3228869246584172749:=0
def tw16303045827136394712:=0
def tw9351720571374354900:=0
def tw6138607242878982153:=0
def tw2402963658114259321:=0
def tw12049024671807344531:=0
def tw3940893259692303413:=0
def tw1284972227940348348:=0
def tw7173137101242864097:=0
def tw203230093412631343:=0
def tw10773081761756136978:=0
def tw12649366930870107942:=0
def tw5286570751288942141:=0
def tw7402708459038042808:=0
def tw8717555103178614254:=0
def tw6149389329461551831:=0
def tw10478784816829457652:=0
def tw15073528903949920170:=0
def tw16241678361288260790:=0
def tw16822123570085375555:=0
def tw12701319225840347026:=0
def tw6466247106856252380:=0
def tw9106896196568678501:=0
def tw11619000556821006687:=0
def tw5342817529664086640:=0
def tw11940079301604241950:=0
def tw15165967768764219255:=0
def tw4029171202921833408:=0
def tw10498569691925020345:=0
def tw12177126381676224035:=0
def tw5384517946754894731:=0
def tw1428682570894848324:=0
def tw1301647658023196269:=0
def tw5009246980272925491:=0
def tw3997171408207283856:=0
def tw18362260766016204707:=0
def tw11671849291844650681:=0
def tw14302497279524220505:=0
def tw13512813021677756566:=0
def tw7009913686103176096:=0
def tw11342255368738820705:=0
def tw3036034398992338056:=0
def tw4745237856417741751:=0
def tw8367951288814701074:=0
def tw16700172129446636748:=0
def tw9628502903095448152:=0
def tw4026618351369087979:=0
def tw7823064156709245594:=0
def tw9636182845798332969:=0
def tw9412402276126608619:=0
def tw6730145657400955094:=0
def tw1043094572456358686:=0
def tw8343516128637370512:=0
def tw9915332730583249624:=0
def tw14033975454323633351:=0
def tw7200396443371145777:=0
def tw17010662585111914741:=0
def tw12958892321292900443:=0
def tw705915358493659687:=0
def tw2608559406165265953:=0
def tw17705608149562121763:=0
def tw4588116518639584470:=0
def tw10295280441371504991:=0
def tw12641513391706816863:=0
def tw1857349380815080044:=0
def tw6202766968462993173:=0
def tw13014761246696490035:=0
def tw2389196390077397718:=0
def tw17521549994623295039:=0
def tw2756083913227896541:=0
def tw9814898168277309011:=0
def tw4604351344620669939:=0
def tw10432734771773341148:=0
def tw9985825311754914948:=0
def tw15096220839762163657:=0
def tw8713286627695755207:=0
def tw11238835403996788631:=0
def tw7744846782230887396:=0
def tw16380726590719176755:=0
def tw17115357042992957064:=0
def tw17069123158292718350:=0
def tw15847269086968768057:=0
def tw9648773543475357397:=0
def tw1492443434657382984:=0
def tw7214489688047268758:=0
def tw1056528975396810903:=0
def tw4084235986234607331:=0
def tw14119493424141514378:=0
def tw1614930886598759054:=0
def tw16743803866852464293:=0
def tw17444942708988575358:=0
def tw10725417476132924653:=0
def tw6820006132212828348:=0
def tw14329363869228006434:=0
def tw8573669908712961760:=0
def tw3100976165149366090:=0
def tw5983798452478269255:=0
def tw8016570682739592910:=0
def tw773527696561949972:=0
def tw1812018286572220218:=0
def tw18352697259429806557:=0
def tw17847543579966298106:=0
def tw16877890515443838155:=0
def tw4313074729900405801:=0
def tw5224581323810708211:=0
def tw9408150718711520072:=0
def tw6204911174907801969:=0
def tw10636213342599932435:=0
def tw14211547466910621921:=0
def tw13355025458776450947:=0
def tw12298225398916658973:=0
def tw14960908711940177118:=0
def tw8910266381460746493:=0
def tw12746333246117585042:=0
def tw14239340133715980137:=0
def tw10865315002777377342:=0
def tw10052860923611791066:=0
def tw1107451841463480305:=0
def tw1413448963112523835:=0
def tw8065769770316751806:=0
def tw1709184128540132484:=0
def tw10795593926058821125:=0
def tw18261822620168089324:=0
def tw8327445302286237979:=0
def tw10925259855012656365:=0
def tw15325617083869757614:=0
def tw14105428021336117354:=0
def tw15275840772785496782:=0
def tw16754797090919197421:=0
def tw2435137962719838571:=0
def tw3592473127293360560:=0
def tw7417050543089878462:=0
def tw6653960703541959155:=0
def tw2740127027755543642:=0
def tw2451057476105415678:=0
def tw13486788447583452166:=0
def tw13190364403644388721:=0
def tw8770858961716978795:=0
def tw6298864768247434757:=0
def tw10836206300070953927:=0
def tw14282775985973089009:=0
def tw16863059955423270047:=0
def tw6141809964866979712:=0
def tw5365300635794897339:=0
def tw10587916188886980470:=0
def tw10903565053712349115:=0
def tw15135048259544615041:=0
def tw5843696395979975315:=0
def tw13323679829780145734:=0
def tw6636336606497111181:=0
def tw3559277563072316504:=0
def tw8222866364892738354:=0
def tw12718445317543828702:=0
def tw17749557520610030884:=0
def tw768654011586986520:=0
def tw1400562758480165853:=0
def tw17919538010588266315:=0
def tw5712874287084370076:=0
def tw8116696503581903740:=0
def tw17567517806620707890:=0
def tw16406272764653326822:=0
def tw8927551844249884223:=0
def tw13481379162027380927:=0
def tw15922978272703166946:=0
def tw13793899455729054714:=0
def tw3638121145610662909:=0
def tw14717625302406493997:=0
def tw18044689443058092640:=0
def tw16805138743357777366:=0
def tw7436249181458154981:=0
def tw10271556277629805968:=0
def tw13388713175490835361:=0
def tw11481006643026793435:=0
def tw14187341527034517857:=0
def tw10301990808653284316:=0
def tw16686617615511160632:=0
def tw1159125046682543135:=0
def tw10775740292935100400:=0
def tw83057627422258044:=0
def tw17930552484746921951:=0
def tw2719417373094867054:=0
def tw56971227050013240:=0
def tw125493611786995328:=0
def tw17739206341402008689:=0
def tw12196040478806378287:=0
def tw6614500392833156595:=0
def tw16565569545599583689:=0
def tw9947605148364524638:=0
def tw14070523698836912003:=0
def tw11412063651334320452:=0
def tw4273501750035010272:=0
def tw10141706522166109161:=0
def tw10464870073217953791:=0
def tw10388407891907849326:=0
def tw10413820040201316010:=0
def tw16721711354209879671:=0
def tw14308768508403212407:=0
def tw16348674949792286063:=0
def tw973821348018310231:=0
def tw5774314572431447411:=0
def tw7493705360029725353:=0
def tw8806845569079766265:=0
def tw1000751022206614355:=0
def tw9401709516584065164:=0
def tw10301762603426582146:=0
def tw5335386516398093258:=0
def tw8644387353440009644:=0
def tw14073801713788007155:=0
def tw10620080128111784799:=0
def tw5788770415202311327:=0
def tw7177574483880953690:=0
def tw7573588902088420675:=0
def tw13953197360141677426:=0
def tw4750457289515968053:=0
def tw14453202696351983599:=0
def tw7200957341118182702:=0
def tw15565556453184624155:=0
def tw16582020302428321778:=0
def tw14049481667714389352:=0
def tw785316867850220978:=0
def tw14296665594331366085:=0
def tw5261591285203010849:=0
def tw17214352678013704976:=0
def tw10709456153335305980:=0
def tw11992117077637900280:=0
def tw14497207025070327413:=0
def tw18073642284147409932:=0
def tw14902327125655468392:=0
def tw17454290333935974056:=0
def tw9190570679317161906:=0
def tw16939697798060156154:=0
def tw14419752724510219091:=0
def tw5549919354581425241:=0
def tw19642955860084376:=0
def tw4257123068379600681:=0
def tw13620023553563418283:=0
def tw14217986090729740637:=0
def tw6168907545132352725:=0
def tw12264492066935232144:=0
def tw10558929739367450310:=0
def tw11383601770594914768:=0
def tw5192072480990211706:=0
def tw16865736326131837549:=0
def tw2785956082663928330:=0
def tw6814836962342011827:=0
def tw3698185486598565162:=0
def tw4718614984660885916:=0
def tw8985277178613822309:=0
def tw9814450820880030734:=0
def tw11728445831446806954:=0
def tw2677154584659479037:=0
def tw9816654360204991556:=0
def tw15515803156378060088:=0
def tw17757409561784389363:=0
def tw7579269746720448090:=0
def tw16491613713908778795:=0
def tw16669424483419965580:=0
def tw6365044057183033994:=0
def tw13456987109641346074:=0
def tw10107589584809886231:=0
def tw15194452955246877118:=0
def tw5348030114631413246:=0
def tw11775011952888371167:=0
def tw16079036689532135082:=0
def tw18374464995495066755:=0
def tw10528712689483409913:=0
def tw12707369402002970049:=0
def tw5560937716282584995:=0
def tw8768758543329632137:=0
def tw14413019305432257956:=0
def tw5205678501383293910:=0
def tw8092360319843537009:=0
def tw1350787031233829457:=0
def tw16060285441832267125:=0
def tw6015640649011684460:=0
def tw18438550789162737077:=0
def tw126308156208166913:=0
def tw8194450476724295962:=0
def tw13182264524882331622:=0
def tw8041075649207988790:=0
def tw6603293662625011908:=0
def tw9909400115267211486:=0
def tw15851645352546300345:=0
def tw9887694437506679895:=0
def tw284689552644026900:=0
def tw15729509371278246910:=0
def tw7939177662948741777:=0
def tw6173816150439551780:=0
def tw690317066355843757:=0
def tw14297370876086328432:=0
def tw10545526710990041029:=0
def tw8888120117085309107:=0
def tw9429828681100597304:=0
def tw1883803859608828260:=0
def tw7196768283356730469:=0
def tw12167677019802959587:=0
def tw3957562460641837264:=0
def tw6456574025196375606:=0
def tw4758726624697293584:=0
def tw1190217195382548617:=0
def tw8906866007448500353:=0
def tw5800933553322370359:=0
def tw7131384365987688495:=0
def tw17647729718205580621:=0
def tw5120915558777153785:=0
def tw13317213443946517315:=0
def tw8614003290141430715:=0
def tw14889335247834170277:=0
def tw2445181512341839538:=0
def tw8447563381448288731:=0
def tw14888108289623591663:=0
def tw16515103306536862982:=0
def tw922880951207310229:=0
def tw24560130579030461:=0
def tw1173495159082185999:=0
def tw3867462153671915863:=0
def tw864727414321787800:=0
def tw5323428500177511019:=0
def tw9626362330505000738:=0
def tw18072582054954753373:=0
def tw1890839950467795184:=0
def tw4678738891879627398:=0
def tw3520971731919848633:=0
def tw16560543978709019972:=0
def tw12330497728842951204:=0
def tw12315397027092281950:=0
def tw14754909771699668540:=0
def tw3702712676422267496:=0
def tw15263873977463446901:=0
def tw789799717792267203:=0
def tw13376640017192938777:=0
def tw3062162121192113621:=0
def tw9418170751085671027:=0
def tw4708570951520793107:=0
def tw6469784434728686566:=0
def tw6239193877492212109:=0
def tw9268188045714768387:=0
def tw16542377437137223724:=0
def tw11106303816636179360:=0
def tw15593242906596322417:=0
def tw9458611603181568976:=0
def tw16980964048671225061:=0
def tw7639423534738852826:=0
def tw10923360638867984316:=0
def tw5849172738950481365:=0
def tw12370777669050433043:=0
def tw4276891304020706413:=0
def tw6390864941099521842:=0
def tw16243694085895173090:=0
def tw3451092661075343271:=0
def tw8014161133443902276:=0
def tw6380495429851539427:=0
def tw61573375464941545:=0
def tw11268383131855162695:=0
def tw2395887960454498609:=0
def tw11854874476710790827:=0
def tw15268973854918404293:=0
def tw11676924433695084677:=0
def tw15637777043026898421:=0
def tw16237060175430641156:=0
def tw945613947296806981:=0
def tw7775829677956083657:=0
def tw10796747915815331443:=0
def tw9181064393605871996:=0
def tw3384634386709353787:=0
def tw8007099436952465057:=0
def tw12028499865758452033:=0
def tw3563490699747152378:=0
def tw8096830548147789273:=0
def tw4608606406285619729:=0
def tw11161014132573213503:=0
def tw17111953000741386177:=0
def tw18092807526032016033:=0
def tw13454645684225862596:=0
def tw12128240431258523206:=0
def tw9366516657764422933:=0
def tw531209898302872091:=0
def tw2794389485090946833:=0
def tw10682811975492428523:=0
def tw10757025497626335251:=0
def tw7886102329782456750:=0
def tw7238712955717310613:=0
def tw3796768056215787914:=0
def tw2540944075125562091:=0
def tw13740094828420395840:=0
def tw8000052807908155698:=0
def tw13959058188770959073:=0
def tw9589495304526070154:=0
def tw1546610818616931526:=0
def tw2777953607345597511:=0
def tw4754654176334352021:=0
def tw6275518902344228738:=0
def tw9213925499742545998:=0
def tw18376107641964348316:=0
def tw6473015134282067587:=0
def tw645131129133801372:=0
def tw5079396265252477091:=0
def tw4905355946499465194:=0
def tw2369838717923453284:=0
def tw624007922653028391:=0
def tw17440552694639182743:=0
def tw10804084002721863958:=0
def tw18174103132205970170:=0
def tw12092908681694336587:=0
def tw6348392964574105662:=0
def tw12714564355791760916:=0
def tw17996553790337443891:=0
def tw1128692616640614825:=0
def tw6440714014025299267:=0
def tw10898725966399006205:=0
def tw6476932330042397956:=0
def tw1490361051190282003:=0
def tw6749371738048460283:=0
def tw4761713570712007852:=0
def tw7936272747780653878:=0
def tw16665224367612061122:=0
def tw6138345408619179013:=0
def tw8304478413108853490:=0
def tw2361741063046558661:=0
def tw12018586259616149619:=0
def tw3505934642736474995:=0
def tw5556149599415171490:=0
def tw14265990622190326604:=0
def tw15386476997292657146:=0
def tw13927093737045260242:=0
def tw15455312592532676058:=0
def tw6847091938268932061:=0
def tw13054080572805880811:=0
def tw16443847545668045179:=0
def tw682722308675609515:=0
def tw740891307723404006:=0
def tw16245787306623653386:=0
def tw6517488468240527935:=0
def tw2490739952990174956:=0
def tw13355563857412543844:=0
def tw14078322610260400641:=0
def tw4425568649691030517:=0
def tw6927598311642088140:=0
def tw3679303851318596930:=0
def tw8493930001225154940:=0
def tw9898818807659819796:=0
def tw9928528851555355832:=0
def tw4970732693022040368:=0
def tw11523856845289384514:=0
def tw17072306924481872526:=0
def tw17175208161611553800:=0
def tw6087272287493794982:=0
def tw1376657831378174995:=0
def tw651038671895727136:=0
def tw3049168597505410457:=0
def tw3016037788965975258:=0
def tw16582906113754670707:=0
def tw17340938036328879520:=0
def tw13406961797741564400:=0
def tw14036400903154271500:=0
def tw16581570849168847612:=0
def tw10709135668649473908:=0
def tw1363841762913106014:=0
def tw11798340721486507468:=0
def tw9339821964550940245:=0
def tw1345936273484373390:=0
def tw5193511889236140623:=0
def tw3031091870416312831:=0
def tw14644623203080838636:=0
def tw12821616804962952065:=0
def tw5847610280375702996:=0
def tw7773415331071111214:=0
def tw10708598605195992476:=0
def tw10647846758781621249:=0
def tw12352284787790736664:=0
def tw6731229984943733905:=0
def tw9562279776946147498:=0
def tw14248724497552511436:=0
def tw2211177095083788914:=0
def tw12052366070669199018:=0
def tw18237836384953582162:=0
def tw7631725542892405218:=0
def tw14150942712247241769:=0
def tw12744835363208174180:=0
def tw9983516440051849368:=0
def tw16387564232263968392:=0
def tw17267344276810422154:=0
def tw18389227410358627346:=0
def tw1640530360100859567:=0
def tw18280220133774219618:=0
def tw6381513892521342870:=0
def tw11002641745854951922:=0
def tw2153443149971620146:=0
def tw734399464649178843:=0
def tw2300253095359423436:=0
def tw875543632439632947:=0
def tw15399697145119696261:=0
def tw4529311957128703163:=0
def tw2400231717661830378:=0
def tw17627128787995797317:=0
def tw17853046282818760680:=0
def tw1837325537775021954:=0
def tw6030035924599055275:=0
def tw10521923091171917728:=0
def tw6244664517165340558:=0
def tw4650787734329387887:=0
def tw16346954253204020588:=0
def tw14821645029424641263:=0
def tw7544355062101680447:=0
def tw1893113800307538494:=0
def tw7885897063129522429:=0
def tw5427903992916782046:=0
def tw17988443127462767432:=0
def tw113587699380144671:=0
def tw8580547454559963337:=0
def tw5761079864143504973:=0
def tw17152923437024228703:=0
def tw11481811699268107148:=0
def tw16586598236409899589:=0
def tw2440757227323000075:=0
def tw16672624195646782715:=0
def tw703016881712739938:=0
def tw11295129381901401742:=0
def tw1405226360860305037:=0
def tw8671758681081397062:=0
def tw12793181870966075166:=0
def tw7742590833367820440:=0
def tw4365988209560780266:=0
def tw13442157441196566714:=0
def tw12491049441767034574:=0
def tw4419583595171593151:=0
def tw13485939186895534355:=0
def tw8322601996029850600:=0
def tw13742353066713893774:=0
def tw11067585070323212970:=0
def tw14262332323581760769:=0
def tw11255532752159342955:=0
def tw5208288689032689496:=0
def tw16072087945160101401:=0
def tw5840718876309185643:=0
def tw15943447939720904837:=0
def tw10147119552737593239:=0
def tw12080479367830678039:=0
def tw18370527506774426671:=0
def tw6644462537946820921:=0
def tw13993306154354786053:=0
def tw15911870760422337086:=0
def tw12152152291401058862:=0
def tw13097721939483709471:=0
def tw15582032920801646459:=0
def tw9900328802661706195:=0
def tw2325813002321895816:=0
def tw3404693315205771677:=0
def tw10819324136336546585:=0
def tw12096489332564199317:=0
def tw2221613617366631489:=0
def tw8201166217702786349:=0
def tw2418921534217905822:=0
def tw6079029268536520068:=0
def tw11948836260230708809:=0
def tw8020178912166733922:=0
def tw10649505460705465358:=0
def tw17692738696001195835:=0
def tw1136455645255832026:=0
def tw10542654607909602203:=0
def tw9311425310967915309:=0
def tw7510494850845856347:=0
def tw6134251454451951779:=0
def tw18403411320123228051:=0
def tw10126242537533555817:=0
def tw11996768969520982646:=0
def tw2799236254578879150:=0
def tw11734567243506521483:=0
def tw16878559141172878519:=0
def tw11377605559844135064:=0
def tw3862942615750494125:=0
def tw14883994081841454148:=0
def tw7971049755550252973:=0
def tw18120339106125486900:=0
def tw7475021091829701078:=0
def tw4566581249739761360:=0
def tw17964623343062902404:=0
def tw11606393621831878309:=0
def tw12636945012705944233:=0
def tw14362385746891039390:=0
def tw18183706337589183335:=0
def tw591747815715537403:=0
def tw5934235480815379455:=0
def tw3133295699498153726:=0
def tw4318961213452387356:=0
def tw13297288122092511877:=0
def tw5962405142954077816:=0
def tw755865159183213523:=0
def tw4836176620632370146:=0
def tw2645020158482415972:=0
def tw5144460060882987952:=0
def tw4812446728932824476:=0
def tw4719232876983721818:=0
def tw11669017046338259229:=0
def tw14566700373666421283:=0
def tw8898859387760727427:=0
def tw1496088090697498496:=0
def tw189534494135520870:=0
def tw3265081688419232222:=0
def tw2222893510385237203:=0
def tw311944377399901752:=0
def tw16127624675809224120:=0
def tw12034753872425348965:=0
def tw549244583466290667:=0
def tw10795989389561995519:=0
def tw12722937972790707558:=0
def tw10782369527717111252:=0
def tw11066506924417240659:=0
def tw118519718181263487:=0
def tw10480246518707432096:=0
def tw1212626335195276950:=0
def tw18297687899662410625:=0
def tw12920965714071968733:=0
def tw11656099938272874864:=0
def tw12425828755852305294:=0
def tw1198505403620748:=0
def tw9463687229629568394:=0
def tw6177738232098988403:=0
def tw6311347091287342624:=0
def tw4881851010397811821:=0
def tw382877114510350462:=0
def tw2050252136184908143:=0
def tw1244777186462116039:=0
def tw163361472554843375:=0
def tw8627743234832346793:=0
def tw231115948487667955:=0
def tw12819965301514950114:=0
def tw17618670858258507765:=0
def tw7617283290266071050:=0
def tw8167120813776152257:=0
def tw5660817261103063498:=0
def tw17713461367682543089:=0
def tw3084542397831410519:=0
def tw17203405999457913895:=0
def tw17582641755851893122:=0
def tw16324593509018558460:=0
def tw11505634248280699238:=0
def tw4176280373373732442:=0
def tw14600552305492062709:=0
def tw7034538676214146601:=0
def tw3517572347293653839:=0
def tw2848097820674315979:=0
def tw16145347040537243581:=0
def tw6566794504996490756:=0
def tw5624317910650452780:=0
def tw16921822643316356999:=0
def tw14092763723761834489:=0
def tw6564665294791128858:=0
def tw12747231624927724786:=0
def tw6949228304513355921:=0
def tw3289934144478275110:=0
def tw6602319106757444851:=0
def tw14264287188216656790:=0
def tw1264457782700186244:=0
def tw6827276037150769728:=0
def tw4021359439286232066:=0
def tw11514377745202121508:=0
def tw3077721626643723035:=0
def tw3243527528419901912:=0
def tw4926957389656843479:=0
def tw6456023704637876962:=0
def tw17723506698134145257:=0
def tw14174431861098363512:=0
def tw7589521652158526857:=0
def tw15898752440977733317:=0
def tw16393516885064395380:=0
def tw8712565774010532432:=0
def tw9854853863560751076:=0
def tw3120396398624833887:=0
def tw637744124279015552:=0
def tw14652979888146506224:=0
def tw12434991804651654368:=0
def tw384514758377608245:=0
def tw15925213904930065291:=0
def tw5082046383570337556:=0
def tw1623129166595542350:=0
def tw14209302375733063264:=0
def tw17586036693694460435:=0
def tw7872129037904286981:=0
def tw12344206299655267518:=0
def tw5176393515179942652:=0
def tw12523618471079665933:=0
def tw17647108765377235959:=0
def tw4751404172253530629:=0
def tw17046339377868173836:=0
def tw13176337140918101685:=0
def tw6934837843865701240:=0
def tw14068873161066069054:=0
def tw17824304801099328903:=0
def tw229466620479067114:=0
def tw12566790304329704847:=0
def tw11101754818501209993:=0
def tw9985428625325070608:=0
def tw7753629661532921047:=0
def tw8068976718012313190:=0
def tw1510531398726030907:=0
def tw13235097135935809741:=0
def tw11993586177017188657:=0
def tw2780862551822122325:=0
def tw12840684489741219829:=0
def tw6724863161595762861:=0
def tw14348756255638628597:=0
def tw1306547448903309260:=0
def tw2491667218077883684:=0
def tw8412851753206417738:=0
def tw17644485045564334492:=0
def tw17229318473105540847:=0
def tw4974263320197692096:=0
def tw7359710237162547268:=0
def tw5031144324232777716:=0
def tw10555564783647590284:=0
def tw11852400476812104971:=0
def tw3722977901043570670:=0
def tw6624347952106091120:=0
def tw14098956290101685319:=0
def tw16783793556574009986:=0
def tw9749956135874242446:=0
def tw1388579486428392062:=0
def tw16465314735330910509:=0
def tw4902785660849487088:=0
def tw5625201739508957173:=0
def tw3303789408409466653:=0
def tw13948433335202290030:=0
def tw11184621338723963539:=0
def tw8448172471830049353:=0
def tw17094565515205517847:=0
def tw10192692298793979095:=0
def tw9453480399786132294:=0
def tw1369813667601241587:=0
def tw9128262201919356505:=0
def tw15798990795120331124:=0
def tw9171877061930702398:=0
end PySem.W.Fast
open PySem PySem.W PyProof.Rows
local macro_rules | `(tactic| walk_at "df")=>`(tactic| ((refine' L2.df_mk ?a ?l ?c ?k);(case a=>k_is);(case l=>k_is);(case c=>k_is);(case k=>k_is)))
local macro_rules | `(tactic| walk_at "dm")=>`(tactic| ((refine' L2.dm_mk ?a ?l ?c ?k ?n);(case a=>k_is);(case l=>k_is);(case c=>k_is);(case k=>k_is);(case n=>k_is)))
set_option maxRecDepth 100000 in
set_option maxHeartbeats 0 in
theorem PySem.Challenge.cw_padwright_k54_forms_shown_holds : PySem.Challenge.rw_padwright_k54_forms_shown.Holds := by
 w_on;o_law;k_head;(case hw=>w_witness2)
 k_fill
 refine Pw.walk (l:=PySem.Challenge.rw_padwright_k54_forms_shown) rfl rfl (fun w h Y=>PySem.W.kIn_of Y) ?F
 case F =>
  intro w mg fa h KX G hmg
  refine' Pw.all_mk KX G hmg ?n_Form ?n_NumberForm ?n_WordForm ?n_ChoiceForm ?n_Words ?n_SIGN_SETS ?n_FIGURES ?n_MOST_FIGURES ?n_STYLES ?n_SIDES ?n_WAYS ?h0 ?h1 ?h2 ?h3 ?h4 ?h5 ?h6 ?h7 ?h8 ?h9 ?h10 ?h11 ?h12 ?h13 ?h14 ?h15 ?h16 ?h17 ?h18 ?h19 ?h20 ?h21 ?h22 ?h23 ?h24 ?h25 ?h26 ?h27 ?h28 ?dl28 ?h29 ?dl29 ?h30 ?h31 ?h32 ?h33 ?dl33 ?h34 ?h35 ?h36 ?h37 ?h38 ?h39 ?h40 ?h41 ?h42 ?h43 ?h44 ?h45 ?h46 ?h47 ?h48 ?h49 ?h50 ?h51 ?h52 ?h53 ?h54 ?h55 ?h56 ?h57 ?h58 ?h59 ?h60 ?h61 ?h62 ?h63 ?h64 ?h65 ?h66 ?h67 ?h68 ?h69 ?h70 ?h71 ?h72 ?h73 ?h74 ?h75 ?h76 ?z_len ?z_range ?z_isinstance ?z_str ?z_max ?z_min ?z_int ?z_bool ?z_abs ?z_list ?z_tuple ?z_all ?sty ?stk ?hW ?ss ?ks ?hS ?ihn ?iht ?nha ?nhm ?nk1 ?nk2 ?nk3 ?nk4 ?wha ?whm ?wk1 ?wk2 ?wk3 ?wk4 ?cha ?chm ?ck1 ?ck2 ?ck3 ?ck4 ?K1_NumberForm ?K2_NumberForm ?K3_NumberForm ?K4_NumberForm ?N_NumberForm_width ?N_NumberForm_fill ?N_NumberForm_side ?N_NumberForm_strict ?N_NumberForm_figures ?N_NumberForm_places ?N_NumberForm_base ?N_NumberForm_sign ?N_NumberForm_size ?N_NumberForm_mark ?N_NumberForm_point ?N_NumberForm_way ?K1_WordForm ?K2_WordForm ?K3_WordForm ?K4_WordForm ?N_WordForm_width ?N_WordForm_fill ?N_WordForm_side ?N_WordForm_strict ?N_WordForm_signs ?N_WordForm_least ?N_WordForm_most ?K1_ChoiceForm ?K2_ChoiceForm ?K3_ChoiceForm ?K4_ChoiceForm ?N_ChoiceForm_width ?N_ChoiceForm_fill ?N_ChoiceForm_side ?N_ChoiceForm_strict ?N_ChoiceForm_names ?K1_Words ?K2_Words ?K3_Words ?K4_Words ?N_Words_words ?N_Words_at ?Ma_Words_peek ?Ma_Words_go_past ?Ma_Words_has_clause ?Ma_Words_take_number ?Ma_Words_take_sign ?Ma_Words_take_one_of ?C1_Form_init ?C2_Form_init ?C3_Form_init ?Ma_NumberForm_is_too_great ?Ma_NumberForm_core ?Ma_NumberForm_is_too_wide ?Ma_WordForm_is_too_wide ?Ma_ChoiceForm_is_too_wide ?Ma_NumberForm_shortest_core ?Ma_WordForm_shortest_core ?Ma_ChoiceForm_shortest_core ?Ma_Words_take_signs ?I1_WordForm ?I2_WordForm ?I4_WordForm ?I1_ChoiceForm ?I2_ChoiceForm ?I4_ChoiceForm ?Ma_Words_take_name ?I1_NumberForm ?I2_NumberForm ?I4_NumberForm ?I1_Words ?I2_Words ?I4_Words ?Ma_NumberForm_puts_some ?Ma_WordForm_puts_some ?Ma_ChoiceForm_puts_some
  (case n_Form=>k_is)
  (case n_NumberForm=>k_is)
  (case n_WordForm=>k_is)
  (case n_ChoiceForm=>k_is)
  (case n_Words=>k_is)
  (case n_SIGN_SETS=>k_is)
  (case n_FIGURES=>k_is)
  (case n_MOST_FIGURES=>k_is)
  (case n_STYLES=>k_is)
  (case n_SIDES=>k_is)
  (case n_WAYS=>k_is)
  (case h0=>walk_at "dm")
  (case h1=>walk_at "dm")
  (case h2=>walk_at "dm")
  (case h3=>walk_at "dm")
  (case h4=>walk_at "df")
  (case h5=>walk_at "dm")
  (case h6=>walk_at "dm")
  (case h7=>walk_at "dm")
  (case h8=>walk_at "df")
  (case h9=>walk_at "df")
  (case h10=>walk_at "dm")
  (case h11=>walk_at "dm")
  (case h12=>walk_at "df")
  (case h13=>walk_at "df")
  (case h14=>walk_at "df")
  (case h15=>walk_at "df")
  (case h16=>walk_at "df")
  (case h17=>walk_at "df")
  (case h18=>walk_at "df")
  (case h19=>walk_at "df")
  (case h20=>walk_at "df")
  (case h21=>walk_at "df")
  (case h22=>walk_at "df")
  (case h23=>walk_at "df")
  (case h24=>walk_at "df")
  (case h25=>walk_at "df")
  (case h26=>walk_at "df")
  (case h27=>walk_at "dm")
  (case h28=>walk_at "dm")
  (case dl28=>k_is)
  (case h29=>walk_at "dm")
  (case dl29=>k_is)
  (case h30=>walk_at "dm")
  (case h31=>walk_at "dm")
  (case h32=>walk_at "dm")
  (case h33=>walk_at "dm")
  (case dl33=>k_is)
  (case h34=>walk_at "dm")
  (case h35=>walk_at "dm")
  (case h36=>walk_at "dm")
  (case h37=>walk_at "dm")
  (case h38=>walk_at "df")
  (case h39=>walk_at "df")
  (case h40=>walk_at "df")
  (case h41=>walk_at "df")
  (case h42=>walk_at "df")
  (case h43=>walk_at "df")
  (case h44=>walk_at "df")
  (case h45=>walk_at "df")
  (case h46=>walk_at "df")
  (case h47=>walk_at "df")
  (case h48=>walk_at "df")
  (case h49=>walk_at "df")
  (case h50=>walk_at "df")
  (case h51=>walk_at "df")
  (case h52=>walk_at "df")
  (case h53=>walk_at "df")
  (case h54=>walk_at "df")
  (case h55=>walk_at "df")
  (case h56=>walk_at "df")
  (case h57=>walk_at "df")
  (case h58=>walk_at "df")
  (case h59=>walk_at "df")
  (case h60=>walk_at "df")
  (case h61=>walk_at "df")
  (case h62=>walk_at "df")
  (case h63=>walk_at "df")
  (case h64=>walk_at "df")
  (case h65=>walk_at "df")
  (case h66=>walk_at "df")
  (case h67=>walk_at "df")
  (case h68=>walk_at "df")
  (case h69=>walk_at "df")
  (case h70=>walk_at "df")
  (case h71=>walk_at "df")
  (case h72=>walk_at "df")
  (case h73=>walk_at "df")
  (case h74=>walk_at "df")
  (case h75=>walk_at "df")
  (case h76=>walk_at "df")
  (case z_len=>k_is)
  (case z_range=>k_is)
  (case z_isinstance=>k_is)
  (case z_str=>k_is)
  (case z_max=>k_is)
  (case z_min=>k_is)
  (case z_int=>k_is)
  (case z_bool=>k_is)
  (case z_abs=>k_is)
  (case z_list=>k_is)
  (case z_tuple=>k_is)
  (case z_all=>k_is)
  (case sty=>(refine' L2.sty_mk ?d ?hp0 ?ha0 ?hb0 ?hp1 ?ha1 ?hb1 ?hp2 ?ha2 ?hb2 ?hp3 ?ha3 ?hb3 ?hp4 ?ha4 ?hb4);(case d=>k_is);(case hp0=>k_is);(case ha0=>k_is);(case hb0=>k_is);(case hp1=>k_is);(case ha1=>k_is);(case hb1=>k_is);(case hp2=>k_is);(case ha2=>k_is);(case hb2=>k_is);(case hp3=>k_is);(case ha3=>k_is);(case hb3=>k_is);(case hp4=>k_is);(case ha4=>k_is);(case hb4=>k_is))
  (case stk=>(refine' L2.kds_sty ?lo ?hd;(case lo=>rfl);(case hd=>k_is)))
  (case hW=>(refine' Pw.sqm_ways ?h;(case h=>k_is)))
  (case ss=>(refine' Pw.sgsets_mk ?lo ?h;(case lo=>rfl);(case h=>k_is)))
  (case ks=>(refine' Pw.kds_sets ?lo ?hd;(case lo=>rfl);(case hd=>k_is)))
  (case hS=>(refine' Pw.sqm_sides ?h;(case h=>k_is)))
  (case ihn=>k_is)
  (case iht=>k_is)
  (case nha=>k_is)
  (case nhm=>k_is)
  (case nk1=>kit_is)
  (case nk2=>kit_is)
  (case nk3=>kit_is)
  (case nk4=>kit_is)
  (case wha=>k_is)
  (case whm=>k_is)
  (case wk1=>kit_is)
  (case wk2=>kit_is)
  (case wk3=>kit_is)
  (case wk4=>kit_is)
  (case cha=>k_is)
  (case chm=>k_is)
  (case ck1=>kit_is)
  (case ck2=>kit_is)
  (case ck3=>kit_is)
  (case ck4=>kit_is)
  (case K1_NumberForm=>k_is)
  (case K2_NumberForm=>k_is)
  (case K3_NumberForm=>k_is)
  (case K4_NumberForm=>k_is)
  (case N_NumberForm_width=>k_is)
  (case N_NumberForm_fill=>k_is)
  (case N_NumberForm_side=>k_is)
  (case N_NumberForm_strict=>k_is)
  (case N_NumberForm_figures=>k_is)
  (case N_NumberForm_places=>k_is)
  (case N_NumberForm_base=>k_is)
  (case N_NumberForm_sign=>k_is)
  (case N_NumberForm_size=>k_is)
  (case N_NumberForm_mark=>k_is)
  (case N_NumberForm_point=>k_is)
  (case N_NumberForm_way=>k_is)
  (case K1_WordForm=>k_is)
  (case K2_WordForm=>k_is)
  (case K3_WordForm=>k_is)
  (case K4_WordForm=>k_is)
  (case N_WordForm_width=>k_is)
  (case N_WordForm_fill=>k_is)
  (case N_WordForm_side=>k_is)
  (case N_WordForm_strict=>k_is)
  (case N_WordForm_signs=>k_is)
  (case N_WordForm_least=>k_is)
  (case N_WordForm_most=>k_is)
  (case K1_ChoiceForm=>k_is)
  (case K2_ChoiceForm=>k_is)
  (case K3_ChoiceForm=>k_is)
  (case K4_ChoiceForm=>k_is)
  (case N_ChoiceForm_width=>k_is)
  (case N_ChoiceForm_fill=>k_is)
  (case N_ChoiceForm_side=>k_is)
  (case N_ChoiceForm_strict=>k_is)
  (case N_ChoiceForm_names=>k_is)
  (case K1_Words=>k_is)
  (case K2_Words=>k_is)
  (case K3_Words=>k_is)
  (case K4_Words=>k_is)
  (case N_Words_words=>k_is)
  (case N_Words_at=>k_is)
  (case Ma_Words_peek=>k_is)
  (case Ma_Words_go_past=>k_is)
  (case Ma_Words_has_clause=>k_is)
  (case Ma_Words_take_number=>k_is)
  (case Ma_Words_take_sign=>k_is)
  (case Ma_Words_take_one_of=>k_is)
  (case C1_Form_init=>k_is)
  (case C2_Form_init=>k_is)
  (case C3_Form_init=>k_is)
  (case Ma_NumberForm_is_too_great=>k_is)
  (case Ma_NumberForm_core=>k_is)
  (case Ma_NumberForm_is_too_wide=>k_is)
  (case Ma_WordForm_is_too_wide=>k_is)
  (case Ma_ChoiceForm_is_too_wide=>k_is)
  (case Ma_NumberForm_shortest_core=>k_is)
  (case Ma_WordForm_shortest_core=>k_is)
  (case Ma_ChoiceForm_shortest_core=>k_is)
  (case Ma_Words_take_signs=>k_is)
  (case I1_WordForm=>k_is)
  (case I2_WordForm=>k_is)
  (case I4_WordForm=>k_is)
  (case I1_ChoiceForm=>k_is)
  (case I2_ChoiceForm=>k_is)
  (case I4_ChoiceForm=>k_is)
  (case Ma_Words_take_name=>k_is)
  (case I1_NumberForm=>k_is)
  (case I2_NumberForm=>k_is)
  (case I4_NumberForm=>k_is)
  (case I1_Words=>k_is)
  (case I2_Words=>k_is)
  (case I4_Words=>k_is)
  (case Ma_NumberForm_puts_some=>k_is)
  (case Ma_WordForm_puts_some=>k_is)
  (case Ma_ChoiceForm_puts_some=>k_is)
